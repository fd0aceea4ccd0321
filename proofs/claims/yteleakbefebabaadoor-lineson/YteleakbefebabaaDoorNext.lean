/- The contract of lines.Next: the logical line that begins at a place, and the place behind it. -/
import Derived.Test.YteleakbefebabaaDoorNx
namespace Go.Proofs.YteleakbefebabaaDoor
open Go.RowKit Go.Shelf

def isRec (x : List UInt8) : Bool := Lib.hasPrefix x [9]
/-- the kind and the text of the logical line at place j, ahead of the look whether it is blank -/
def rawT (L : List (List UInt8)) (j : Nat) : List UInt8 := if isRec (L.getD j []) then rcp (jn (L.drop j)) else oth (jn (L.drop j))
def rawK (L : List (List UInt8)) (j : Nat) : Nat := if isRec (L.getD j []) then 1 else 2
theorem Szs.drop {L : List ByteArray} (h : Szs L) (j : Nat) : Szs (L.drop j) := by
  refine ⟨by rw [List.length_drop]; have := h.len; omega, fun i => ?_, ?_⟩
  · have := h.each (j + i)
    rw [List.getD_eq_getElem?_getD] at this ⊢
    rw [List.getElem?_drop]
    exact this
  · have h1 := h.sum
    rw [← List.take_append_drop j L, List.map_append, tot_app] at h1
    omega
theorem tot_jn : ∀ (l : List (List UInt8)), tot (jn l) ≤ tot l
  | [] => Nat.le_refl _
  | x :: r => by
    simp only [jn, tot]
    split
    · have := tot_jn r; omega
    · simp [tot]
theorem Txt.drop {W : World} {b off : Nat} {L : List ByteArray} (h : Txt W (some ⟨b, off, none⟩) L) (j : Nat) : Txt W (some ⟨b, off + j, none⟩) (L.drop j) := fun k hk => by
  rw [List.length_drop] at hk
  obtain ⟨b', off', e, h1, h2⟩ := h (j + k) (by omega)
  cases e
  refine ⟨b, off + j, rfl, h1, ?_⟩
  rw [show off + j + k = off + (j + k) by omega, h2]
  rw [List.getD_eq_getElem?_getD, List.getD_eq_getElem?_getD, List.getElem?_drop]

set_option maxHeartbeats 1000000 in
theorem next_none (L : List ByteArray) (al : Option Addr) (cl : Nat) (m : Int) (w : World) (hm : m < 0 ∨ (L.length : Int) ≤ m) :
    Calls Tryd.prog 13 #[.slice al L.length cl, .int .i64 m] w fun e w' => e = .returned (.tuple #[lnv 0 0 ⟨#[]⟩, .int .i64 m]) ∧ Below w.heap.size w w' := by
  go_enter Tryd.func13, Tryd.ntmps13
  by_cases h0 : m < 0
  · have d0 : decide (m < 0) = true := decide_eq_true h0
    go_wp2
    refine bodyPost_ret (by simp [results, Tryd.results13, go_sem]; rfl) rfl ?_
    exact ⟨rfl, (Below.refl _ w).alloc (Nat.le_refl _) _⟩
  · have d0 : decide (m < 0) = false := decide_eq_false h0
    have h1 : (L.length : Int) ≤ m := by omega
    have d1 : decide ((L.length : Int) ≤ m) = true := decide_eq_true h1
    go_wp2
    refine bodyPost_ret (by simp [results, Tryd.results13, go_sem]; rfl) rfl ?_
    exact ⟨rfl, (Below.refl _ w).alloc (Nat.le_refl _) _⟩

set_option maxRecDepth 100000 in
set_option maxHeartbeats 1000000 in
theorem next_some (L : List ByteArray) (b off cl j : Nat) (w : World) (hz : Szs L) (hL : Txt w (some ⟨b, off, none⟩) L) (hj : j < L.length) (hc : L.length ≤ cl) :
    Calls Tryd.prog 13 #[.slice (some ⟨b, off, none⟩) L.length cl, .int .i64 j] w fun e w' => e = .returned (.tuple #[lnv (kindP (rawK (L.map tl) j) (rawT (L.map tl) j)) ((j : Int) + 1) (mk (textP (rawK (L.map tl) j) (rawT (L.map tl) j))), .int .i64 ((j : Int) + (jn ((L.map tl).drop j)).length)]) ∧ Below w.heap.size w w' := by
  have hmj : (L.map tl).drop j = (L.drop j).map tl := by rw [List.map_drop]
  have hgj : (L.map tl).getD j [] = tl (L.getD j ⟨#[]⟩) := by
    rw [List.getD_eq_getElem?_getD, List.getD_eq_getElem?_getD, List.getElem?_map, List.getElem?_eq_getElem hj]; rfl
  have hzd := hz.drop j
  have hLd := fun W hb => (hL.below (W' := W) hb).drop j
  have hjl := jn_le ((L.drop j).map tl)
  have htl := tot_jn ((L.drop j).map tl)
  rw [List.length_map, List.length_drop] at hjl
  have hsum := hzd.sum
  obtain ⟨b', off', e, hblt, hcell⟩ := hL j hj
  cases e
  have kpre := fun w => Tryd.strings_HasPrefix (L.getD j ⟨#[]⟩) ⟨#[9]⟩ w
  have hrc : ∀ W, Below w.heap.size w W → Calls Tryd.prog 21 #[.slice (some ⟨b, off + j, none⟩) (L.length - j) (cl - j)] W fun e w' => e = .returned (.tuple #[.string (mk (rcp (jn ((L.drop j).map tl)))), .int .i64 (jn ((L.drop j).map tl)).length]) ∧ Below W.heap.size W w' := fun W hb => by
    have := recipe_any (L.drop j) (some ⟨b, off + j, none⟩) (cl - j) W hzd (hLd W hb)
    rwa [List.length_drop] at this
  have hot : ∀ W, Below w.heap.size w W → Calls Tryd.prog 23 #[.slice (some ⟨b, off + j, none⟩) (L.length - j) (cl - j)] W fun e w' => e = .returned (.tuple #[.string (mk (oth (jn ((L.drop j).map tl)))), .int .i64 (jn ((L.drop j).map tl)).length]) ∧ Below W.heap.size W w' := fun W hb => by
    have := other_any (L.drop j) (some ⟨b, off + j, none⟩) (cl - j) W hzd (hLd W hb)
    rwa [List.length_drop] at this
  have hrl := rcp_le (jn ((L.drop j).map tl))
  have hol := oth_le (jn ((L.drop j).map tl))
  unfold rawK rawT
  rw [hgj, hmj]
  unfold isRec
  change ∀ w, Calls Tryd.prog 20 #[.string (L.getD j ⟨#[]⟩), .string ⟨#[9]⟩] w fun e w' => e = .returned (.bool (Lib.hasPrefix (tl (L.getD j ⟨#[]⟩)) [9])) ∧ w' = w at kpre
  generalize Lib.hasPrefix (tl (L.getD j ⟨#[]⟩)) [9] = r at kpre ⊢
  generalize L.getD j ⟨#[]⟩ = x at kpre hcell
  obtain ⟨n, hn⟩ : ∃ n, n = (jn ((L.drop j).map tl)).length := ⟨_, rfl⟩
  rw [← hn] at hrc hot hjl ⊢
  have HZ := hide' hz
  clear hmj hgj hzd hLd hL hz
  have hj1 : ¬ ((j : Int) < 0) := by omega
  have hj2 : ¬ (L.length : Int) ≤ (j : Int) := by omega
  have hj3 : ¬ L.length ≤ j := by omega
  have hj4 : ¬ cl = j := by omega
  cases r with
  | true =>
    obtain ⟨t, ht⟩ : ∃ t, t = rcp (jn ((L.drop j).map tl)) := ⟨_, rfl⟩
    rw [← ht] at hrc hrl
    simp only [if_true, ← ht]
    have hlen := HZ.out.len
    have hts0 : t.length ≤ 1000000 := by omega
    have hts : (mk t).size ≤ 1000000 := by rw [mk_size]; omega
    have kse := fun w => settled_any 1 ((j : Int) + 1) (mk t) w (by decide) hts
    rw [tl_mk] at kse
    obtain ⟨kk, hkk⟩ : ∃ kk, kk = kindP 1 t := ⟨_, rfl⟩
    obtain ⟨tt, htt⟩ : ∃ tt, tt = mk (textP 1 t) := ⟨_, rfl⟩
    rw [← hkk, ← htt] at kse
    rw [← hkk, ← htt]
    clear hkk htt
    have hjn : (j : Int) + n ≤ 1000000 := by omega
    clear ht hot hol hn htl hsum hrl
    go_enter Tryd.func13, Tryd.ntmps13
    go_wp2_with (go_at_call 20; refine (kpre _).mono ?_; rintro e w' ⟨rfl, rfl⟩)
    refine (hrc _ ((Below.refl _ w).alloc (Nat.le_refl _) _)).mono ?_
    rintro e w1 ⟨rfl, hb1⟩
    clear hrc
    go_wp2_with fail
    refine (kse _).mono ?_
    rintro e w2 ⟨rfl, hb2⟩
    have hb12 := hb1.trans (hb2.mono hb1.size)
    have e1 : w2.heap[w.heap.size]? = some (.cells #[.int .i64 0, .int .i64 0, .string ⟨#[]⟩] 30) := (hb12.block w.heap.size (by simp)).trans (World.alloc_heap_new w _)
    have d0 : w2.cell? ⟨w.heap.size, 0, none⟩ = some (.int .i64 0) := by rw [Lib.cell_of_heap e1]; rfl
    have d1 : w2.cell? ⟨w.heap.size, 1, none⟩ = some (.int .i64 0) := by rw [Lib.cell_of_heap e1]; rfl
    have d2 : w2.cell? ⟨w.heap.size, 2, none⟩ = some (.string ⟨#[]⟩) := by rw [Lib.cell_of_heap e1]; rfl
    have f0 : w2.frozen? ⟨w.heap.size, 0, none⟩ = false := Lib.frozen_of_heap e1 0
    have f1 : w2.frozen? ⟨w.heap.size, 1, none⟩ = false := Lib.frozen_of_heap e1 1
    have f2 : w2.frozen? ⟨w.heap.size, 2, none⟩ = false := Lib.frozen_of_heap e1 2
    have hbe : Below w.heap.size w w2 := ((Below.refl _ w).alloc (Nat.le_refl _) _).trans (hb12.mono (by simp))
    clear e1 hb12 hb1 hb2 kse kpre hcell
    go_wp2
    refine bodyPost_ret (by simp [results, Tryd.results13, go_sem, d0, d1, d2]; rfl) rfl ?_
    refine ⟨rfl, ?_⟩
    exact ((hbe.setCell (p := ⟨w.heap.size, 0, none⟩) (Nat.le_refl _) _).setCell (p := ⟨w.heap.size, 1, none⟩) (Nat.le_refl _) _).setCell (p := ⟨w.heap.size, 2, none⟩) (Nat.le_refl _) _
  | false =>
    obtain ⟨t, ht⟩ : ∃ t, t = oth (jn ((L.drop j).map tl)) := ⟨_, rfl⟩
    rw [← ht] at hot hol
    simp only [Bool.false_eq_true, if_false, ← ht]
    have hlen := HZ.out.len
    have hts0 : t.length ≤ 1000000 := by omega
    have hts : (mk t).size ≤ 1000000 := by rw [mk_size]; omega
    have kse := fun w => settled_any 2 ((j : Int) + 1) (mk t) w (by decide) hts
    rw [tl_mk] at kse
    obtain ⟨kk, hkk⟩ : ∃ kk, kk = kindP 2 t := ⟨_, rfl⟩
    obtain ⟨tt, htt⟩ : ∃ tt, tt = mk (textP 2 t) := ⟨_, rfl⟩
    rw [← hkk, ← htt] at kse
    rw [← hkk, ← htt]
    clear hkk htt
    have hjn : (j : Int) + n ≤ 1000000 := by omega
    clear ht hrc hrl hn htl hsum hol
    go_enter Tryd.func13, Tryd.ntmps13
    go_wp2_with (go_at_call 20; refine (kpre _).mono ?_; rintro e w' ⟨rfl, rfl⟩)
    refine (hot _ ((Below.refl _ w).alloc (Nat.le_refl _) _)).mono ?_
    rintro e w1 ⟨rfl, hb1⟩
    clear hot
    go_wp2_with fail
    refine (kse _).mono ?_
    rintro e w2 ⟨rfl, hb2⟩
    have hb12 := hb1.trans (hb2.mono hb1.size)
    have e1 : w2.heap[w.heap.size]? = some (.cells #[.int .i64 0, .int .i64 0, .string ⟨#[]⟩] 30) := (hb12.block w.heap.size (by simp)).trans (World.alloc_heap_new w _)
    have d0 : w2.cell? ⟨w.heap.size, 0, none⟩ = some (.int .i64 0) := by rw [Lib.cell_of_heap e1]; rfl
    have d1 : w2.cell? ⟨w.heap.size, 1, none⟩ = some (.int .i64 0) := by rw [Lib.cell_of_heap e1]; rfl
    have d2 : w2.cell? ⟨w.heap.size, 2, none⟩ = some (.string ⟨#[]⟩) := by rw [Lib.cell_of_heap e1]; rfl
    have f0 : w2.frozen? ⟨w.heap.size, 0, none⟩ = false := Lib.frozen_of_heap e1 0
    have f1 : w2.frozen? ⟨w.heap.size, 1, none⟩ = false := Lib.frozen_of_heap e1 1
    have f2 : w2.frozen? ⟨w.heap.size, 2, none⟩ = false := Lib.frozen_of_heap e1 2
    have hbe : Below w.heap.size w w2 := ((Below.refl _ w).alloc (Nat.le_refl _) _).trans (hb12.mono (by simp))
    clear e1 hb12 hb1 hb2 kse kpre hcell
    go_wp2
    refine bodyPost_ret (by simp [results, Tryd.results13, go_sem, d0, d1, d2]; rfl) rfl ?_
    refine ⟨rfl, ?_⟩
    exact ((hbe.setCell (p := ⟨w.heap.size, 0, none⟩) (Nat.le_refl _) _).setCell (p := ⟨w.heap.size, 1, none⟩) (Nat.le_refl _) _).setCell (p := ⟨w.heap.size, 2, none⟩) (Nat.le_refl _) _
end Go.Proofs.YteleakbefebabaaDoor
