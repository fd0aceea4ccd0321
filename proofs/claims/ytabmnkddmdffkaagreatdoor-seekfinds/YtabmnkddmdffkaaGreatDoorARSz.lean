import Derived.Test.YtabmnkddmdffkaaGreatDoorARArG
namespace Go.Proofs.YtabmnkddmdffkaaGreatDoor.Arc
open Go.RowKit
theorem digits_len : ∀ (k n : Nat), n < 10 ^ (k + 1) → (Lib.decDigits n).length ≤ k + 1
 | 0, n, h => by rw [Lib.decDigits_one (by simpa using h)]; simp
 | k + 1, n, h => by
  by_cases h1 : n < 10
  ·rw [Lib.decDigits_one h1]; simp
  ·rw [Lib.decDigits, dif_neg h1, List.length_append]
   have := digits_len k (n / 10) (by rw [Nat.div_lt_iff_lt_mul (by decide)]; rw [Nat.pow_succ] at h; exact h)
   simp
   omega
theorem dec_len (k : Nat) (n : Int) (h0 : 0 ≤ n) (h : n < (10 : Int) ^ (k + 1)) : (dec n).length ≤ k + 1 := by
 unfold dec Lib.itoa
 rw [if_neg (by omega)]
 refine digits_len k n.toNat ?_
 have : ((n.toNat : Nat) : Int) < ((10 ^ (k + 1) : Nat) : Int) := by rw [Int.toNat_of_nonneg h0]; simpa using h
 exact Int.ofNat_lt.1 this
theorem pad_length {n : Nat} {b : Bs} (h : b.length ≤ n) : (pad n b).length = n := by unfold pad; simp; omega
theorem head_length {a b c d e f : Bs} (h1 : a.length ≤ 16) (h2 : b.length ≤ 12) (h3 : c.length ≤ 6) (h4 : d.length ≤ 6) (h5 : e.length ≤ 8) (h6 : f.length ≤ 10) : (headB a b c d e f).length = 60 := by
 unfold headB
 simp only [List.length_append, pad_length h1, pad_length h2, pad_length h3, pad_length h4, pad_length h5, pad_length h6]
 rfl
theorem data_length (d : Bs) : (dataB d).length = evn d.length := by
 unfold dataB evn
 rw [List.length_append]
 split
 ·simp; omega
 ·simp; omega
theorem dec_small (n : Nat) (h : n ≤ 65536) : (dec (n : Nat)).length ≤ 5 := dec_len 4 n (by omega) (by simp; omega)
theorem name_length {p : Nat} {b : Bs} (hp : p ≤ 65536) : (nameB p b).length ≤ 16 := by
 unfold nameB
 split
 ·have := dec_small p hp
  simp
  omega
 ·rename_i h
  unfold lng at h
  simp at h ⊢
  omega
theorem mem_length {p : Nat} {m : Mv} (hp : p ≤ 65536) (hm : okM m = true) (hd : m.data.length ≤ 65536) : (memB p m).length = wtD m := by
 unfold okM at hm
 simp only [Bool.and_eq_true, decide_eq_true_eq] at hm
 unfold memB wtD
 rw [List.length_append, data_length, head_length (name_length hp) (dec_len 11 m.date hm.1.2 (by have := hm.2; simp; omega)) (by simp) (by simp) (by simp) (Nat.le_trans (dec_small _ hd) (by decide))]
theorem body_length : ∀ (ms : List Mv) (p : Nat), (∀ m ∈ ms, okM m = true) → (∀ m ∈ ms, m.data.length ≤ 65536) → p + sumM wtT ms ≤ 65536 → (bodyB p ms).length = sumM wtD ms
 | [], _, _, _, _ => rfl
 | m :: r, p, h1, h2, h3 => by
  simp only [sumM] at h3
  have := body_length r (p + wtT m) (fun x hx => h1 x (List.mem_cons_of_mem _ hx)) (fun x hx => h2 x (List.mem_cons_of_mem _ hx)) (by omega)
  simp only [bodyB, List.length_append, sumM, this, mem_length (by omega : p ≤ 65536) (h1 m List.mem_cons_self) (h2 m List.mem_cons_self)]
theorem table_length (ms : List Mv) (h : sumM wtT ms ≤ 65536) : (tableB ms).length = if 0 < sumM wtT ms then 60 + evn (sumM wtT ms) else 0 := by
 unfold tableB
 rw [tbl_len]
 split
 ·rw [List.length_append, data_length, tbl_len, head_length (by simp) (by simp) (by simp) (by simp) (by simp) (Nat.le_trans (dec_small _ h) (by decide))]
 ·rfl
theorem wtD_le {ms : List Mv} (h : lenA ms ≤ 65536) : sumM wtD ms ≤ 65536 ∧ sumM wtT ms ≤ 65536 ∧ ∀ m ∈ ms, m.data.length ≤ 65536 := by
 unfold lenA at h
 have h1 : sumM wtT ms ≤ evn (sumM wtT ms) := by unfold evn; omega
 have h2 : sumM wtD ms ≤ 65536 := by omega
 refine ⟨h2, by split at h <;> omega, fun m hm => ?_⟩
 have h3 := sumM_mem wtD hm
 have e : wtD m = 60 + (m.data.length + m.data.length % 2) := rfl
 rw [e] at h3
 omega
theorem arch_length {ms : List Mv} (h1 : lenA ms ≤ 65536) (h2 : ms.all okM = true) : (archB ms).length = lenA ms := by
 obtain ⟨a, b, c⟩ := wtD_le h1
 unfold archB lenA
 rw [List.length_append, List.length_append, table_length ms b, body_length ms 0 (fun m hm => List.all_eq_true.1 h2 m hm) c (by omega)]
 show 8 + _ + _ = _
 omega
end Go.Proofs.YtabmnkddmdffkaaGreatDoor.Arc
