/- The map of the comparisons, and what they tell. The contracts of text.digit, anvillaw1.num, text.Number and anvilref1.Number: each computes the plain number of a text of one to nine digits. number; ofTwo. Expressions of test. -/
import Derived.Test.YtbfchadcpokjoaaGreatDoorAZu
import Derived.Test.YtbfchadcpokjoaaGreatDoorProg
import Derived.WalkKit
import Derived.WalkSpells
import Derived.WalkLawsBesides
import Derived.Lib.QuietBelow
import Derived.BigQuiet
namespace Go.Proofs.YtbfchadcpokjoaaGreatDoor
open Go.RowKit

/-- which function a sign stands for -/
def cmOf (t : Bs) : Option Nat :=
  if t = [45, 101, 113] then some 198
  else if t = [45, 110, 101] then some 199
  else if t = [45, 108, 116] then some 200
  else if t = [45, 108, 101] then some 201
  else if t = [45, 103, 116] then some 202
  else if t = [45, 103, 101] then some 203
  else none
def cmpsA : Array MapEntry := #[⟨.string ⟨#[45, 101, 113]⟩, utV 198, 0⟩, ⟨.string ⟨#[45, 110, 101]⟩, utV 199, 1⟩, ⟨.string ⟨#[45, 108, 116]⟩, utV 200, 2⟩, ⟨.string ⟨#[45, 108, 101]⟩, utV 201, 3⟩, ⟨.string ⟨#[45, 103, 116]⟩, utV 202, 4⟩, ⟨.string ⟨#[45, 103, 101]⟩, utV 203, 5⟩]
def cmW (t : Bs) : Value := match cmOf t with
  | some k => utV k
  | none => .nilFunc
theorem find_cmps (t : Bs) : Instr.findNow .string (.string (mk t)) cmpsA.toList 0 = some ((cmOf t).map fun k => (k - 198, utV k)) := by
  by_cases h0 : t = [45, 101, 113]
  · subst h0; rfl
  by_cases h1 : t = [45, 110, 101]
  · subst h1; rfl
  by_cases h2 : t = [45, 108, 116]
  · subst h2; rfl
  by_cases h3 : t = [45, 108, 101]
  · subst h3; rfl
  by_cases h4 : t = [45, 103, 116]
  · subst h4; rfl
  by_cases h5 : t = [45, 103, 101]
  · subst h5; rfl
  have hf : cmOf t = none := by unfold cmOf; simp only [h0, h1, h2, h3, h4, h5, if_false]
  rw [hf]
  refine find_no _ _ _ fun e he => ?_
  have hne : ∀ (l : Bs), ¬ t = l → (mk t == ⟨l.toArray⟩) = false := fun l hl => by
    show (t.toArray == l.toArray) = false
    simp [hl]
  simp only [cmpsA, List.mem_cons, List.not_mem_nil, or_false] at he
  rcases he with rfl | rfl | rfl | rfl | rfl | rfl
  · exact ⟨_, rfl, hne [45, 101, 113] h0⟩
  · exact ⟨_, rfl, hne [45, 110, 101] h1⟩
  · exact ⟨_, rfl, hne [45, 108, 116] h2⟩
  · exact ⟨_, rfl, hne [45, 108, 101] h3⟩
  · exact ⟨_, rfl, hne [45, 103, 116] h4⟩
  · exact ⟨_, rfl, hne [45, 103, 101] h5⟩
theorem look_cmps {w : World} {M : Nat} (h : w.heap[M]? = some (.map cmpsA 6)) (t : Bs) : (Instr.lookup 232 (.map (some M)) (.string (mk t)) true).run Tryz.prog w = .ok (.tuple #[cmW t, .bool (cmOf t).isSome]) w := by
  have hg : (getObj M).run Tryz.prog w = .ok (.map cmpsA 6) w := by
    simp [getObj, Sem.run, h]
  have hff := find_cmps t
  unfold Instr.lookup
  simp only [Sem.run_bind, run_underlying Tryz.underlying232, Result.andThen_ok, hg, Sem.run_pure]
  have hck : (Instr.checkKey cmpsA.isEmpty 10000 9 (.string (mk t))).run Tryz.prog w = .ok () w := by
    unfold Instr.checkKey
    simp [Sem.run_bind, run_underlying Tryz.underlying9]
  rw [hck]
  simp only [Result.andThen_ok]
  have hfk : (Instr.findKey 9 (.string (mk t)) cmpsA.toList).run Tryz.prog w = .ok ((cmOf t).map fun k => (k - 198, utV k)) w := by
    unfold Instr.findKey
    simp [Sem.run_bind, run_underlying Tryz.underlying9, hff]
  rw [hfk]
  unfold cmW
  cases cmOf t with
  | none => simp
  | some f => simp
/-- a key more in the map -/
theorem cins {W : World} {M c : Nat} {es : Array MapEntry} (h : W.heap[M]? = some (.map es c)) (k : ByteArray) (v : Value) (hf : Instr.findNow .string (.string k) es.toList 0 = some none) :
    ∃ W', (Instr.mapUpdate 232 (.map (some M)) (.string k) v).run Tryz.prog W = .ok () W' ∧ W'.heap[M]? = some (.map (es.push ⟨.string k, v, c⟩) (c + 1)) ∧ W.grownBy W' (some M) := by
  have hlt : M < W.heap.size := by
    rcases Nat.lt_or_ge M W.heap.size with h1 | h1
    · exact h1
    · rw [Array.getElem?_eq_none h1] at h; cases h
  have hg : (getObj M).run Tryz.prog W = .ok (.map es c) W := by simp [getObj, Sem.run, h]
  have hck : (Instr.checkKey false 10000 9 (.string k)).run Tryz.prog W = .ok () W := by
    unfold Instr.checkKey
    simp [Sem.run_bind, run_underlying Tryz.underlying9]
  have hfk : (Instr.findKey 9 (.string k) es.toList).run Tryz.prog W = .ok none W := by
    unfold Instr.findKey
    simp [Sem.run_bind, run_underlying Tryz.underlying9, hf]
  refine ⟨{ W with heap := W.heap.setIfInBounds M (.map (es.push ⟨.string k, v, c⟩) (c + 1)) }, ?_, ?_, ⟨rfl, rfl, rfl, by simp, fun b _ hn => ?_⟩⟩
  · unfold Instr.mapUpdate
    simp only [Sem.run_bind, run_underlying Tryz.underlying232, Result.andThen_ok, hg, hck, hfk]
    simp [setObj, Sem.run, h]
  · simp [hlt]
  · have hne : M ≠ b := fun e => hn (by rw [e])
    simp [Array.getElem?_setIfInBounds_ne hne]
set_option maxRecDepth 100000 in
set_option maxHeartbeats 4000000 in
theorem comparisons_any (w : World) :
    Calls Tryz.prog 183 #[] w fun e w' => e = .returned (.map (some w.heap.size)) ∧ Below w.heap.size w w' ∧ w'.heap[w.heap.size]? = some (.map cmpsA 6) := by
  have hmm : ∀ W, (Instr.makeMap 232 none).run Tryz.prog W = .ok (.map (some W.heap.size)) (W.alloc (.map #[] 0)) := fun W => rfl
  have hb0 : Below w.heap.size w (w.alloc (.map #[] 0)) := (Below.refl _ _).alloc (Nat.le_refl _) _
  have m0 : (w.alloc (.map #[] 0)).heap[w.heap.size]? = some (.map #[] 0) := heap_alloc_new w _
  obtain ⟨w1, hr1, m1, g1⟩ := cins m0 ⟨#[45, 101, 113]⟩ (utV 198) (by rfl)
  obtain ⟨w2, hr2, m2, g2⟩ := cins m1 ⟨#[45, 110, 101]⟩ (utV 199) (by rfl)
  obtain ⟨w3, hr3, m3, g3⟩ := cins m2 ⟨#[45, 108, 116]⟩ (utV 200) (by rfl)
  obtain ⟨w4, hr4, m4, g4⟩ := cins m3 ⟨#[45, 108, 101]⟩ (utV 201) (by rfl)
  obtain ⟨w5, hr5, m5, g5⟩ := cins m4 ⟨#[45, 103, 116]⟩ (utV 202) (by rfl)
  obtain ⟨w6, hr6, m6, g6⟩ := cins m5 ⟨#[45, 103, 101]⟩ (utV 203) (by rfl)
  have gall := grown_trans g1 (grown_trans g2 (grown_trans g3 (grown_trans g4 (grown_trans g5 (g6)))))
  have hb : Below w.heap.size w w6 := hb0.trans ⟨gall.os, gall.tape, gall.output, gall.size, fun b hb => gall.block b (Nat.lt_of_lt_of_le hb hb0.size) fun e => by have := Option.some.inj e; omega⟩
  have HE := hide' (And.intro hb m6)
  clear hb gall g1 g2 g3 g4 g5 g6 m0 m1 m2 m3 m4 m5 m6 hb0
  go_enter Tryz.func183, Tryz.ntmps183
  go_wp2
  go_ret
  exact ⟨rfl, HE.out⟩
/-- what a sign tells of two numbers -/
def cmP : Nat → Int → Int → Bool
  | 198, a, b => a == b
  | 199, a, b => a != b
  | 200, a, b => decide (a < b)
  | 201, a, b => decide (a ≤ b)
  | 202, a, b => decide (b < a)
  | _, a, b => decide (b ≤ a)
theorem cmp198 (a b : Int) (w : World) : Calls Tryz.prog 198 #[.int .i64 a, .int .i64 b] w fun r w' => r = .returned (.bool (cmP 198 a b)) ∧ w' = w := by
  go_enter Tryz.func198, Tryz.ntmps198
  go_wp2
  go_ret
  exact ⟨by simp [cmP], rfl⟩
theorem cmp199 (a b : Int) (w : World) : Calls Tryz.prog 199 #[.int .i64 a, .int .i64 b] w fun r w' => r = .returned (.bool (cmP 199 a b)) ∧ w' = w := by
  go_enter Tryz.func199, Tryz.ntmps199
  go_wp2
  go_ret
  exact ⟨by simp [cmP], rfl⟩
theorem cmp200 (a b : Int) (w : World) : Calls Tryz.prog 200 #[.int .i64 a, .int .i64 b] w fun r w' => r = .returned (.bool (cmP 200 a b)) ∧ w' = w := by
  go_enter Tryz.func200, Tryz.ntmps200
  go_wp2
  go_ret
  exact ⟨by simp [cmP], rfl⟩
theorem cmp201 (a b : Int) (w : World) : Calls Tryz.prog 201 #[.int .i64 a, .int .i64 b] w fun r w' => r = .returned (.bool (cmP 201 a b)) ∧ w' = w := by
  go_enter Tryz.func201, Tryz.ntmps201
  go_wp2
  go_ret
  exact ⟨by simp [cmP], rfl⟩
theorem cmp202 (a b : Int) (w : World) : Calls Tryz.prog 202 #[.int .i64 a, .int .i64 b] w fun r w' => r = .returned (.bool (cmP 202 a b)) ∧ w' = w := by
  go_enter Tryz.func202, Tryz.ntmps202
  go_wp2
  go_ret
  exact ⟨by simp [cmP], rfl⟩
theorem cmp203 (a b : Int) (w : World) : Calls Tryz.prog 203 #[.int .i64 a, .int .i64 b] w fun r w' => r = .returned (.bool (cmP 203 a b)) ∧ w' = w := by
  go_enter Tryz.func203, Tryz.ntmps203
  go_wp2
  go_ret
  exact ⟨by simp [cmP], rfl⟩
theorem cmp_any (k : Nat) (h1 : 198 ≤ k) (h2 : k ≤ 203) (a b : Int) (w : World) : Calls Tryz.prog k #[.int .i64 a, .int .i64 b] w fun r w' => r = .returned (.bool (cmP k a b)) ∧ w' = w := by
  obtain rfl | rfl | rfl | rfl | rfl | rfl : k = 198 ∨ k = 199 ∨ k = 200 ∨ k = 201 ∨ k = 202 ∨ k = 203 := by omega
  · exact cmp198 a b w
  · exact cmp199 a b w
  · exact cmp200 a b w
  · exact cmp201 a b w
  · exact cmp202 a b w
  · exact cmp203 a b w
theorem truth_any (b : Bool) (w : World) : Calls Tryz.prog 156 #[.bool b] w fun r w' => r = .returned (.int .i64 (if b then 0 else 1)) ∧ w' = w := by
  cases b
  · go_enter Tryz.func156, Tryz.ntmps156
    go_wp2
    go_ret
    exact ⟨rfl, rfl⟩
  · go_enter Tryz.func156, Tryz.ntmps156
    go_wp2
    go_ret
    exact ⟨rfl, rfl⟩
theorem opposite_any (n : Int) (w : World) : Calls Tryz.prog 126 #[.int .i64 n] w fun r w' => r = .returned (.int .i64 (if n = 0 then 1 else if n = 1 then 0 else n)) ∧ w' = w := by
  by_cases h0 : n = 0
  · subst h0
    go_enter Tryz.func126, Tryz.ntmps126
    go_wp2
    go_ret
    exact ⟨rfl, rfl⟩
  · by_cases h1 : n = 1
    · subst h1
      go_enter Tryz.func126, Tryz.ntmps126
      go_wp2
      go_ret
      exact ⟨rfl, rfl⟩
    · have e0 : (n == 0) = false := by simp [h0]
      have e1 : (n == 1) = false := by simp [h1]
      rw [if_neg h0, if_neg h1]
      go_enter Tryz.func126, Tryz.ntmps126
      go_wp2
      go_ret
      exact ⟨rfl, rfl⟩
end Go.Proofs.YtbfchadcpokjoaaGreatDoor
namespace Go.Proofs.YtbfchadcpokjoaaGreatDoor
open Go.RowKit

def dg (c : UInt8) : Bool := decide (48 ≤ c.toNat) && decide (c.toNat ≤ 57)
def nv : Int → List UInt8 → Int
  | n, [] => n
  | n, c :: r => nv (n * 10 + ((c.toNat : Int) - 48)) r
def isNum (l : List UInt8) : Bool := decide (1 ≤ l.length) && decide (l.length ≤ 9) && l.all dg
def numOf (l : List UInt8) : Int := if isNum l then nv 0 l else 0

theorem thide {p : Prop} (h : p) : Hid p := h
theorem tunhide {p : Prop} (h : Hid p) : p := h
theorem nv_snoc (n : Int) (l : List UInt8) (c : UInt8) : nv n (l ++ [c]) = nv n l * 10 + ((c.toNat : Int) - 48) := by
  induction l generalizing n with
  | nil => rfl
  | cons d r ih => simp only [List.cons_append, nv]; exact ih _
theorem dg_iff (c : UInt8) : dg c = true ↔ 48 ≤ c.toNat ∧ c.toNat ≤ 57 := by simp [dg]
theorem nv_lt (l : List UInt8) : ∀ n : Int, 0 ≤ n → l.all dg = true → 0 ≤ nv n l ∧ nv n l < (n + 1) * 10 ^ l.length := by
  induction l with
  | nil => intro n h _; simp [nv]; omega
  | cons c r ih =>
    intro n h0 h
    simp only [List.all_cons, Bool.and_eq_true] at h
    have hc := (dg_iff c).1 h.1
    have := ih (n * 10 + ((c.toNat : Int) - 48)) (by omega) h.2
    refine ⟨this.1, Int.lt_of_lt_of_le this.2 ?_⟩
    have hp : (0 : Int) ≤ 10 ^ r.length := Int.le_of_lt (Int.pow_pos (by decide))
    have e : (n + 1) * 10 ^ (c :: r).length = (n * 10 + 10) * 10 ^ r.length := by
      rw [List.length_cons, Int.pow_succ, Int.mul_comm (10 ^ r.length) 10, ← Int.mul_assoc]; congr 1; omega
    rw [e]
    exact Int.mul_le_mul_of_nonneg_right (by omega) hp
theorem nv_bd (l : List UInt8) (h : l.all dg = true) : 0 ≤ nv 0 l ∧ nv 0 l < 10 ^ l.length := by
  have := nv_lt l 0 (by omega) h
  rw [show (0 + 1 : Int) = 1 from rfl, Int.one_mul] at this
  exact this
theorem nv_bd9 (l : List UInt8) (h : l.all dg = true) (h9 : l.length ≤ 9) : 0 ≤ nv 0 l ∧ nv 0 l < 1000000000 := by
  have := nv_bd l h
  have hp : (10 : Int) ^ l.length ≤ 10 ^ 9 := by exact_mod_cast Nat.pow_le_pow_right (by omega) h9
  have : (10 : Int) ^ 9 = 1000000000 := by decide
  omega
theorem ttake_snoc (s : ByteArray) (k : Nat) (h : k < s.size) : s.data.toList.take (k + 1) = s.data.toList.take k ++ [s[k]] := by
  rw [List.take_succ_eq_append_getElem (by simpa using h)]; rfl

theorem tdigit_yes (c : Nat) (h1 : 48 ≤ c) (h2 : c ≤ 57) (w : World) :
    Calls Tryz.prog 176 #[.int .u8 c] w fun e w' => e = .returned (.bool true) ∧ w' = w := by
  have k1 : (48 : Int) ≤ c := by omega
  have k2 : (c : Int) ≤ 57 := by omega
  go_enter Tryz.func176, Tryz.ntmps176
  go_wp2
  go_ret
  exact ⟨by simp, rfl⟩
theorem tdigit_no (c : Nat) (h : c < 48 ∨ 57 < c) (w : World) :
    Calls Tryz.prog 176 #[.int .u8 c] w fun e w' => e = .returned (.bool false) ∧ w' = w := by
  by_cases h1 : 48 ≤ c
  · have k1 : (48 : Int) ≤ c := by omega
    have k2 : ¬ (c : Int) ≤ 57 := by omega
    go_enter Tryz.func176, Tryz.ntmps176
    go_wp2
    go_ret
    exact ⟨by simp, rfl⟩
  · have k1 : ¬ (48 : Int) ≤ c := by omega
    go_enter Tryz.func176, Tryz.ntmps176
    go_wp2
    go_ret
    exact ⟨rfl, rfl⟩

theorem tnum_any (n : Int) (w : World) :
    Calls Tryz.prog 12 #[.int .i64 n] w fun e w' => e = .returned (.int .i64 n) ∧ w' = w := by
  go_enter Tryz.func12, Tryz.ntmps12
  go_wp2
  go_ret
  exact ⟨rfl, rfl⟩

theorem tnumber_len (s : ByteArray) (w : World) (h : s.size < 1 ∨ 9 < s.size) (hs : s.size ≤ maxLen) :
    Calls Tryz.prog 149 #[.string s] w fun e w' => e = .returned (.tuple #[.int .i64 0, .bool false]) ∧ w' = w := by
  unfold maxLen at hs
  by_cases h1 : s.size < 1
  · have k1 : (s.size : Int) < 1 := by omega
    go_enter Tryz.func149, Tryz.ntmps149
    go_wp2
    go_ret2
    exact ⟨rfl, rfl⟩
  · have k1 : ¬ (s.size : Int) < 1 := by omega
    have k2 : (9 : Int) < s.size := by omega
    go_enter Tryz.func149, Tryz.ntmps149
    go_wp2
    go_ret2
    exact ⟨rfl, rfl⟩

set_option maxHeartbeats 400000 in
theorem tnumber_walk (s : ByteArray) (w : World) (h1 : 1 ≤ s.size) (h9 : s.size ≤ 9) :
    Calls Tryz.prog 149 #[.string s] w fun e w' => e = .returned (.tuple #[.int .i64 (numOf s.data.toList), .bool (isNum s.data.toList)]) ∧ w' = w := by
  have k1 : ¬ (s.size : Int) < 1 := by omega
  have k2 : ¬ (9 : Int) < s.size := by omega
  go_enter Tryz.func149, Tryz.ntmps149
  go_wp2
  go_loop [4, 16] (fun n i => ∃ k : Nat, k ≤ s.size ∧ i = .int .i64 k ∧ (s.data.toList.take k).all dg = true ∧ n = .int .i64 (nv 0 (s.data.toList.take k))) (fun _ i => s.size - (intOf i).toNat)
  case atStart => exact ⟨0, Nat.zero_le _, rfl, rfl, rfl⟩
  case round =>
    obtain ⟨k, hk, rfl, ha, rfl⟩ := hrel
    have hb := nv_bd9 _ ha (by simp; omega)
    by_cases hlt : k < s.size
    · have hb9 := nv_bd9 _ ha (by simp; omega)
      have hsn := nv_snoc 0 (s.data.toList.take k) s[k]
      have hal : (s.data.toList.take (k + 1)).all dg = ((s.data.toList.take k).all dg && dg s[k]) := by rw [ttake_snoc s k hlt]; simp
      rw [← ttake_snoc s k hlt] at hsn
      have HS := thide hsn
      clear hsn
      by_cases hd : dg s[k] = true
      · have h2 := (dg_iff _).1 hd
        have hal' : (s.data.toList.take (k + 1)).all dg = true := by rw [hal, ha, hd]; rfl
        clear hal hd ha
        go_wp2_with (go_at_call 176; refine (tdigit_yes _ (by omega) (by omega) _).mono ?_; rintro e w' ⟨rfl, rfl⟩)
        exact ⟨⟨k + 1, by omega, by go_num, hal', by rw [tunhide HS]⟩, by simp [intOf]; omega⟩
      · have h2 : s[k].toNat < 48 ∨ 57 < s[k].toNat := by
          have := mt (dg_iff s[k]).2 hd
          omega
        have hfin : isNum s.data.toList = false := by
          simp only [isNum, Bool.and_eq_false_iff]
          right
          rw [← List.take_append_drop (k + 1) s.data.toList, List.all_append, hal]
          simp [hd]
        have hz : numOf s.data.toList = 0 := by rw [numOf, hfin]; rfl
        have HF := thide hfin
        have HZ := thide hz
        clear hal hd ha hfin hz HS
        go_wp2_with (go_at_call 176; refine (tdigit_no _ (by omega) _).mono ?_; rintro e w' ⟨rfl, rfl⟩)
        go_ret2
        exact ⟨by rw [tunhide HF, tunhide HZ]; rfl, rfl⟩
    · have hke : s.data.toList.take k = s.data.toList := List.take_of_length_le (by simp; omega)
      have hfin : isNum s.data.toList = true := by
        rw [hke] at ha
        have hl : s.data.toList.length = s.size := by simp
        simp only [isNum, ha, Bool.and_true, Bool.and_eq_true, decide_eq_true_eq, hl]
        omega
      have hz : nv 0 (s.data.toList.take k) = numOf s.data.toList := by rw [numOf, hfin, hke]; rfl
      have HF := thide hfin
      have HZ := thide hz
      clear hke hfin hz ha
      go_wp2
      go_ret2
      exact ⟨by rw [tunhide HF, tunhide HZ]; rfl, rfl⟩

theorem tnumber_any (s : ByteArray) (w : World) (hs : s.size ≤ maxLen) :
    Calls Tryz.prog 149 #[.string s] w fun e w' => e = .returned (.tuple #[.int .i64 (numOf s.data.toList), .bool (isNum s.data.toList)]) ∧ w' = w := by
  by_cases h : 1 ≤ s.size ∧ s.size ≤ 9
  · exact tnumber_walk s w h.1 h.2
  · have hn : isNum s.data.toList = false := by
      have hl : s.data.toList.length = s.size := by simp
      simp only [isNum, Bool.and_eq_false_iff, decide_eq_false_iff_not, hl]
      left
      omega
    have hz : numOf s.data.toList = 0 := by rw [numOf, hn]; rfl
    rw [hn, hz]
    exact tnumber_len s w (by omega) hs
end Go.Proofs.YtbfchadcpokjoaaGreatDoor
namespace Go.Proofs.YtbfchadcpokjoaaGreatDoor
open Go.RowKit

def sgD (s : Bs) : Bs := Lib.trimPrefix s [45]
def sgN (s : Bs) : Int := if Lib.hasPrefix s [45] then - numOf (sgD s) else numOf (sgD s)
def sgB (s : Bs) : Bool := isNum (sgD s)
theorem sgD_len (s : Bs) : (sgD s).length ≤ s.length := by
  unfold sgD Lib.trimPrefix
  split
  · rw [List.length_drop]; omega
  · exact Nat.le_refl _
theorem numOf_bd (l : Bs) : 0 ≤ numOf l ∧ numOf l < 1000000000 := by
  unfold numOf
  by_cases h : isNum l
  · rw [if_pos h]
    simp only [isNum, Bool.and_eq_true, decide_eq_true_eq] at h
    exact nv_bd9 l h.2 h.1.2
  · rw [if_neg h]; omega
theorem sgN_bd (s : Bs) : -1000000000 < sgN s ∧ sgN s < 1000000000 := by
  have := numOf_bd (sgD s)
  unfold sgN
  split <;> omega
set_option maxRecDepth 100000 in
set_option maxHeartbeats 2000000 in
theorem snumber_any (s : Bs) (w : World) (hs : s.length ≤ maxLen) :
    Calls Tryz.prog 115 #[.string (mk s)] w fun r w' => r = .returned (.tuple #[.int .i64 (sgN s), .bool (sgB s)]) ∧ w' = w := by
  have q1 := Tryz.strings_CutPrefix (mk s) ⟨#[45]⟩ w
  rw [show (mk s).data.toList = s from tl_mk s] at q1
  have q2 := tnumber_any ⟨(sgD s).toArray⟩ w (by show (sgD s).toArray.size ≤ maxLen; have := sgD_len s; simp; omega)
  have e : (Lib.trimPrefix s (⟨#[45]⟩ : ByteArray).data.toList) = sgD s := rfl
  rw [e] at q1
  have bd := numOf_bd (sgD s)
  have e3 : (⟨(sgD s).toArray⟩ : ByteArray).data.toList = sgD s := by simp
  rw [e3] at q2
  have hw : IntKind.i64.wrap (- numOf (sgD s)) = - numOf (sgD s) := by rw [IntKind.wrap_i64]; omega
  have e4 : sgN s = if Lib.hasPrefix s (⟨#[45]⟩ : ByteArray).data.toList then - numOf (sgD s) else numOf (sgD s) := rfl
  rw [e4]
  unfold sgB
  generalize Lib.hasPrefix s (⟨#[45]⟩ : ByteArray).data.toList = hp at q1 ⊢
  generalize isNum (sgD s) = bb at q2 ⊢
  generalize numOf (sgD s) = nn at q2 hw bd ⊢
  cases hp
  · go_enter Tryz.func115, Tryz.ntmps115
    go_wp2_with (go_at_call 148; refine q1.mono ?_; rintro r w1 ⟨rfl, rfl⟩)
    refine q2.mono ?_
    rintro r w1 ⟨rfl, rfl⟩
    go_wp2
    refine bodyPost_ret (v := .tuple #[.int .i64 nn, .bool bb]) (by simp [results, Tryz.results115, go_sem]) rfl ?_
    exact ⟨rfl, rfl⟩
  · go_enter Tryz.func115, Tryz.ntmps115
    go_wp2_with (go_at_call 148; refine q1.mono ?_; rintro r w1 ⟨rfl, rfl⟩)
    refine q2.mono ?_
    rintro r w1 ⟨rfl, rfl⟩
    go_wp2
    refine bodyPost_ret (v := .tuple #[.int .i64 (-nn), .bool bb]) (by simp [results, Tryz.results115, go_sem]) rfl ?_
    exact ⟨rfl, rfl⟩
set_option maxRecDepth 100000 in
set_option maxHeartbeats 4000000 in
/-- a sign that compares numbers -/
theorem ofTwo_num (c : Value) (a t b : Bs) (k : Nat) (w : World) (ht : cmOf t = some k) (h1 : 198 ≤ k) (h2 : k ≤ 203) (hcf : ∀ (xs : Array Value) (W : World), (callFunc k xs).run Tryz.prog W = .ok (.enter k xs) W) (t1 : t ≠ [61]) (t2 : t ≠ [33, 61]) (t3 : t ≠ [45, 110, 116]) (t4 : t ≠ [45, 111, 116]) (ha : a.length ≤ maxLen) (hb : b.length ≤ maxLen) :
    Calls Tryz.prog 158 #[c, .string (mk a), .string (mk t), .string (mk b)] w fun r w' => r = .returned (.tuple #[.int .i64 (if sgB a && sgB b then (if cmP k (sgN a) (sgN b) then 0 else 1) else 2), .bool true]) ∧ Below w.heap.size w w' := by
  have q1 := fun W => snumber_any a W ha
  have q2 := fun W => snumber_any b W hb
  have q3 := fun W => cmp_any k h1 h2 (sgN a) (sgN b) W
  have e1 := mk_neq t1
  have e2 := mk_neq t2
  have e3 := mk_neq t3
  have e4 := mk_neq t4
  have f1 : (t == [61]) = false := by simp [t1]
  have f2 : (t == [33, 61]) = false := by simp [t2]
  have f3 : (t == [45, 110, 116]) = false := by simp [t3]
  have f4 : (t == [45, 111, 116]) = false := by simp [t4]
  generalize cmP k (sgN a) (sgN b) = cb at q3 ⊢
  generalize sgN a = na at q1 q3
  generalize sgN b = nb at q2 q3
  generalize sgB a = ba at q1 ⊢
  generalize sgB b = bb at q2 ⊢
  have q4 := fun W => truth_any cb W
  generalize htv : (if cb then (0 : Int) else 1) = tv at q4 ⊢
  generalize hres : (if (ba && bb) = true then tv else 2) = res
  have HR := hide' hres
  clear hres htv
  have hu : cmW t = utV k := by unfold cmW; rw [ht]
  have hks : (cmOf t).isSome = true := by rw [ht]; rfl
  go_enter Tryz.func158, Tryz.ntmps158
  go_wp2_with fail
  refine (comparisons_any w).mono ?_
  rintro r w1 ⟨rfl, hb1, hm1⟩
  have hlk : (Instr.lookup 232 (.map (some w.heap.size)) (.string (mk t)) true).run Tryz.prog w1 = .ok (.tuple #[utV k, .bool true]) w1 := by
    have := look_cmps hm1 t
    rw [hu, hks] at this
    exact this
  clear hm1 hu hks ht
  have HB := hide' hb1
  clear hb1
  go_wp2_with fail
  refine (q1 w1).mono ?_
  rintro r w2 ⟨rfl, rfl⟩
  go_wp2_with fail
  refine (q2 w2).mono ?_
  rintro r w3 ⟨rfl, rfl⟩
  by_cases hba : ba = true
  · by_cases hbb : bb = true
    · subst hba hbb
      go_wp2_with fail
      refine (q3 w3).mono ?_
      rintro r w4 ⟨rfl, rfl⟩
      go_wp2_with fail
      refine (q4 w4).mono ?_
      rintro r w5 ⟨rfl, rfl⟩
      go_wp2
      refine bodyPost_ret (v := .tuple #[.int .i64 tv, .bool true]) (by simp [results, Tryz.results158, go_sem]) rfl ?_
      exact ⟨by rw [← HR.out]; simp, HB.out⟩
    · obtain rfl : bb = false := by simpa using hbb
      subst hba
      go_wp2
      refine bodyPost_ret (v := .tuple #[.int .i64 2, .bool true]) (by simp [results, Tryz.results158, go_sem]) rfl ?_
      exact ⟨by rw [← HR.out]; simp, HB.out⟩
  · obtain rfl : ba = false := by simpa using hba
    go_wp2
    refine bodyPost_ret (v := .tuple #[.int .i64 2, .bool true]) (by simp [results, Tryz.results158, go_sem]) rfl ?_
    exact ⟨by rw [← HR.out]; simp, HB.out⟩
set_option maxRecDepth 100000 in
set_option maxHeartbeats 4000000 in
theorem ofTwo_eq (c : Value) (a b : Bs) (w : World) :
    Calls Tryz.prog 158 #[c, .string (mk a), .string (mk [61]), .string (mk b)] w fun r w' => r = .returned (.tuple #[.int .i64 (if a = b then 0 else 1), .bool true]) ∧ w' = w := by
  have q4 := fun W => truth_any (mk a == mk b) W
  have hm : (mk a == mk b) = decide (a = b) := by
    by_cases h : a = b
    · subst h; rw [mk_beq]; simp
    · rw [mk_neq h]; simp [h]
  have hm2 : (a == b) = decide (a = b) := by
    by_cases h : a = b
    · subst h; simp
    · simp [h]
  rw [hm] at q4
  have hI : (if a = b then (0 : Int) else 1) = if decide (a = b) = true then 0 else 1 := by simp
  rw [hI]
  generalize decide (a = b) = d at q4 hm hm2 ⊢
  generalize (if d = true then (0 : Int) else 1) = tv at q4 ⊢
  clear hI
  go_enter Tryz.func158, Tryz.ntmps158
  go_wp2_with fail
  refine (q4 w).mono ?_
  rintro r w1 ⟨rfl, rfl⟩
  go_wp2
  refine bodyPost_ret (v := .tuple #[.int .i64 tv, .bool true]) (by simp [results, Tryz.results158, go_sem]) rfl ?_
  exact ⟨rfl, rfl⟩
set_option maxRecDepth 100000 in
set_option maxHeartbeats 4000000 in
theorem ofTwo_ne (c : Value) (a b : Bs) (w : World) :
    Calls Tryz.prog 158 #[c, .string (mk a), .string (mk [33, 61]), .string (mk b)] w fun r w' => r = .returned (.tuple #[.int .i64 (if a = b then 1 else 0), .bool true]) ∧ w' = w := by
  have q4 := fun W => truth_any (!(mk a == mk b)) W
  have hm : (mk a == mk b) = decide (a = b) := by
    by_cases h : a = b
    · subst h; rw [mk_beq]; simp
    · rw [mk_neq h]; simp [h]
  have hm2 : (a == b) = decide (a = b) := by
    by_cases h : a = b
    · subst h; simp
    · simp [h]
  rw [hm] at q4
  have hI : (if a = b then (1 : Int) else 0) = if (!decide (a = b)) = true then 0 else 1 := by by_cases h : a = b <;> simp [h]
  rw [hI]
  generalize decide (a = b) = d at q4 hm hm2 ⊢
  generalize (if (!d) = true then (0 : Int) else 1) = tv at q4 ⊢
  clear hI
  go_enter Tryz.func158, Tryz.ntmps158
  go_wp2_with fail
  refine (q4 w).mono ?_
  rintro r w1 ⟨rfl, rfl⟩
  go_wp2
  refine bodyPost_ret (v := .tuple #[.int .i64 tv, .bool true]) (by simp [results, Tryz.results158, go_sem]) rfl ?_
  exact ⟨rfl, rfl⟩
end Go.Proofs.YtbfchadcpokjoaaGreatDoor
namespace Go.Proofs.YtbfchadcpokjoaaGreatDoor
open Go.RowKit

set_option maxRecDepth 100000 in
set_option maxHeartbeats 4000000 in
/-- three words -/
theorem simple_three (cv v : Value) (a t b : Bs) (st : Int) (kn : Bool) (w : World) (hv : Txs w v [a, t, b])
    (hq : ∀ W : World, Calls Tryz.prog 158 #[cv, .string (mk a), .string (mk t), .string (mk b)] W fun r w' => r = .returned (.tuple #[.int .i64 st, .bool kn]) ∧ Below W.heap.size W w') :
    Calls Tryz.prog 125 #[cv, v] w fun r w' => r = .returned (.tuple #[.int .i64 st, .bool kn]) ∧ Below w.heap.size w w' := by
  rcases hv with ⟨_, _, _, h⟩ | ⟨g, o, c, rfl, h2, h3, h4⟩
  · cases h
  have x0 : w.cell? ⟨g, o, none⟩ = some (.string (mk a)) := h4 0 a rfl
  have x1 : w.cell? ⟨g, o + 1, none⟩ = some (.string (mk t)) := h4 1 t rfl
  have x2 : w.cell? ⟨g, o + 2, none⟩ = some (.string (mk b)) := h4 2 b rfl
  have d0 := fun d os => cell_regrown x0 d os
  have d1 := fun d os => cell_regrown x1 d os
  have d2 := fun d os => cell_regrown x2 d os
  have qk := fun (d : Nat) (os : Array Obj) => hq («Sort».grow (redrawn w d) os)
  have e3 : ([a, t, b] : List Bs).length = 3 := rfl
  rw [e3] at h2 ⊢
  clear h4 hq h3
  go_enter Tryz.func125, Tryz.ntmps125
  go_wp2
  refine wp_region_quiet_below (by kernel_rfl) (by kernel_rfl) ?_
  repeat (go_big_quiet_step ((go_at_call 158; exact Calls.regrown_of (qk _ _))))
  refine wpQuiet_nil ?_
  intro w2 hw2
  have hb2 : Below w.heap.size w w2 := by
    obtain ⟨p, rfl⟩ := hw2
    exact below_regrown _ _ _
  clear hw2 d0 d1 d2 qk x0 x1 x2
  go_wp2_with fail
  refine bodyPost_ret (v := .tuple #[.int .i64 st, .bool kn]) (by simp [results, Tryz.results125, go_sem]) rfl ?_
  exact ⟨rfl, hb2⟩
set_option maxRecDepth 100000 in
set_option maxHeartbeats 4000000 in
/-- four words and more -/
theorem simple_four (cv v : Value) (L : List Bs) (w : World) (hv : Txs w v L) (hl : 4 ≤ L.length) :
    Calls Tryz.prog 125 #[cv, v] w fun r w' => r = .returned (.tuple #[.int .i64 0, .bool false]) ∧ w' = w := by
  rcases hv with ⟨_, _, _, rfl⟩ | ⟨g, o, c, rfl, h2, h3, h4⟩
  · simp at hl
  have e0 : ((L.length : Int) == 0) = false := beq_eq_false_iff_ne.2 (by omega)
  have e1 : ((L.length : Int) == 1) = false := beq_eq_false_iff_ne.2 (by omega)
  have e2 : ((L.length : Int) == 2) = false := beq_eq_false_iff_ne.2 (by omega)
  have e3 : ((L.length : Int) == 3) = false := beq_eq_false_iff_ne.2 (by omega)
  generalize L.length = n at e0 e1 e2 e3 ⊢
  clear h4 h3
  go_enter Tryz.func125, Tryz.ntmps125
  go_wp2
  refine bodyPost_ret (v := .tuple #[.int .i64 0, .bool false]) (by simp [results, Tryz.results125, go_sem]) rfl ?_
  exact ⟨rfl, rfl⟩
set_option maxRecDepth 100000 in
set_option maxHeartbeats 4000000 in
theorem expr_three (cv v : Value) (a t b : Bs) (st : Int) (w : World) (hv : Txs w v [a, t, b])
    (hq : ∀ W : World, Calls Tryz.prog 158 #[cv, .string (mk a), .string (mk t), .string (mk b)] W fun r w' => r = .returned (.tuple #[.int .i64 st, .bool true]) ∧ Below W.heap.size W w') :
    Calls Tryz.prog 98 #[cv, v] w fun r w' => r = .returned (.int .i64 st) ∧ Below w.heap.size w w' := by
  have q := simple_three cv v a t b st true w hv hq
  clear hq hv
  go_enter Tryz.func98, Tryz.ntmps98
  go_wp2_with fail
  refine q.mono ?_
  rintro r w1 ⟨rfl, hb⟩
  clear q
  go_wp2
  go_ret
  exact ⟨rfl, hb⟩
set_option maxRecDepth 100000 in
set_option maxHeartbeats 4000000 in
theorem expr_not (cv v : Value) (a t b : Bs) (st : Int) (w : World) (hv : Txs w v [[33], a, t, b])
    (hq : ∀ W : World, Calls Tryz.prog 158 #[cv, .string (mk a), .string (mk t), .string (mk b)] W fun r w' => r = .returned (.tuple #[.int .i64 st, .bool true]) ∧ Below W.heap.size W w') :
    Calls Tryz.prog 98 #[cv, v] w fun r w' => r = .returned (.int .i64 (if st = 0 then 1 else if st = 1 then 0 else st)) ∧ Below w.heap.size w w' := by
  have q := simple_four cv v _ w hv (by simp)
  obtain ⟨g, o, c, hvv, hc0, hg⟩ := hv.head
  obtain ⟨ya, yc, hsl, hT⟩ := hv.tail
  have q2 := expr_three cv (.slice ya 3 yc) a t b st w hT hq
  have q3 := fun W => opposite_any st W
  generalize (if st = 0 then 1 else if st = 1 then 0 else st) = so at q3 ⊢
  have e3 : ([a, t, b] : List Bs).length = 3 := rfl
  rw [e3] at hsl hvv
  subst hvv
  clear hq hv hT
  go_enter Tryz.func98, Tryz.ntmps98
  go_wp2_with fail
  refine q.mono ?_
  rintro r w1 ⟨rfl, rfl⟩
  clear q
  go_wp2_with fail
  refine q2.mono ?_
  rintro r w2 ⟨rfl, hb⟩
  go_wp2_with fail
  refine (q3 w2).mono ?_
  rintro r w3 ⟨rfl, rfl⟩
  go_wp2
  go_ret
  exact ⟨rfl, hb⟩
set_option maxRecDepth 100000 in
set_option maxHeartbeats 4000000 in
theorem test_any (C : Nat) (fv y iv ov : Value) (st : Int) (w : World) (h : CallAt w C fv y iv ov) (q : Calls Tryz.prog 98 #[.pointer (some ⟨C, 0, none⟩), y] w fun r w' => r = .returned (.int .i64 st) ∧ Below w.heap.size w w') :
    Calls Tryz.prog 53 #[.pointer (some ⟨C, 0, none⟩)] w fun r w' => r = .returned (.int .i64 st) ∧ Below w.heap.size w w' := by
  have c1 : w.cell? ⟨C, 1, none⟩ = some y := by rw [Lib.cell_of_heap h]; rfl
  clear h
  go_enter Tryz.func53, Tryz.ntmps53
  go_wp2_with fail
  refine q.mono ?_
  rintro r w1 ⟨rfl, hb⟩
  go_wp2
  go_ret
  exact ⟨rfl, hb⟩
theorem Txs.init {w : World} {v : Value} {x : Bs} {L : List Bs} (h : Txs w v (L ++ [x])) :
    ∃ g o c, v = .slice (some ⟨g, o, none⟩) (L.length + 1) c ∧ w.cell? ⟨g, o + L.length, none⟩ = some (.string (mk x)) ∧ (∀ W : World, (Instr.slice 24 v none (some (.int .i64 L.length)) none).run Tryz.prog W = .ok (.slice (some ⟨g, o, none⟩) L.length c) W) ∧ Txs w (.slice (some ⟨g, o, none⟩) L.length c) L := by
  obtain ⟨i, hi, hz0, hz1, hz2⟩ := info_parts info9
  rcases h with ⟨_, _, _, h⟩ | ⟨g, o, c, rfl, h2, h3, h4⟩
  · simp at h
  · have e : (L ++ [x]).length = L.length + 1 := by simp
    rw [e] at h2 ⊢
    refine ⟨g, o, c, rfl, h4 L.length x (by simp), fun W => ?_, .inr ⟨g, o, c, rfl, by omega, h3, fun j u hj => h4 j u (by rw [List.getElem?_append_left (List.getElem?_eq_some_iff.1 hj).1]; exact hj)⟩⟩

    simp [Instr.slice, Instr.sliceBounds, Instr.sliceBound, run_underlying Tryz.underlying24, asIntOf, sizeOf, typeInfo, hi, Addr.add]
    omega
set_option maxRecDepth 100000 in
set_option maxHeartbeats 4000000 in
theorem bracket_any (C : Nat) (fv y iv ov : Value) (L : List Bs) (st : Int) (w : World) (h : CallAt w C fv y iv ov) (hl : L.length ≤ 100000) (hy : Txs w y (L ++ [[93]])) (q : ∀ v, Txs w v L → Calls Tryz.prog 98 #[.pointer (some ⟨C, 0, none⟩), v] w fun r w' => r = .returned (.int .i64 st) ∧ Below w.heap.size w w') :
    Calls Tryz.prog 54 #[.pointer (some ⟨C, 0, none⟩)] w fun r w' => r = .returned (.int .i64 st) ∧ Below w.heap.size w w' := by
  obtain ⟨g, o, c, rfl, hc, hsl, hT⟩ := hy.init
  have c1 : w.cell? ⟨C, 1, none⟩ = some (.slice (some ⟨g, o, none⟩) (L.length + 1) c) := by rw [Lib.cell_of_heap h]; rfl
  have HQ := hide' (q _ hT)
  clear h hy q hT
  generalize L.length = n at *
  have k1 : ¬ (n : Int) < 0 := by omega
  have hw : IntKind.i64.wrap (n : Int) = n := by rw [IntKind.wrap_i64]; omega
  go_enter Tryz.func54, Tryz.ntmps54
  go_wp2_with fail
  refine HQ.out.mono ?_
  rintro r w1 ⟨rfl, hb⟩
  go_wp2
  go_ret
  exact ⟨rfl, hb⟩
end Go.Proofs.YtbfchadcpokjoaaGreatDoor
