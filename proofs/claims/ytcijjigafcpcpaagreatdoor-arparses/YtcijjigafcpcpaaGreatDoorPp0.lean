/- What an archive's bytes are scanned to: plain. -/
import Derived.Test.YtcijjigafcpcpaaGreatDoorMb
import Derived.Test.YtcijjigafcpcpaaGreatDoorDatb
import Derived.Test.YtcijjigafcpcpaaGreatDoorPut
namespace Go.Proofs.YtcijjigafcpcpaaGreatDoor
open Go.RowKit Go.Maps Go.Shelf

def scanR (bs : Bs) : Option (List Mm) := if Lib.hasPrefix bs magicB = true then scanP 5001 [] (bs.drop 8) [] else none
theorem tE_toE : tE = toE := rfl
/-- a list's archive is scanned to it -/
theorem arch_scan {ms : List Mv} {bs : Bs} (h : wrongR ms = 0) (e : archB ms = bs) : scanR bs = some (ms.map tE) ∧ bs.length ≤ 65536 := by
  obtain ⟨h1, h2, h3⟩ := wrong_zero h
  subst e
  refine ⟨?_, by rw [arch_length h2 h3]; exact h2⟩
  unfold scanR
  have hp : Lib.hasPrefix (archB ms) magicB = true := by
    unfold archB
    rw [List.append_assoc]
    unfold Lib.hasPrefix
    simp [magicB]
  rw [if_pos hp]
  exact scan_arch ms h 5001 (Nat.le_refl _)
/-- nothing told, no list -/
theorem none_arch {bs : Bs} (h : scanR bs = none) : ∀ ms, wrongR ms = 0 → archB ms ≠ bs := fun ms h1 h2 => by
  have := (arch_scan h1 h2).1
  rw [h] at this
  cases this
theorem no_long {bs : Bs} (h : 65536 < bs.length) : ∀ ms, wrongR ms = 0 → archB ms ≠ bs := fun ms h1 h2 => by
  have := (arch_scan h1 h2).2
  omega
theorem no_other {bs : Bs} {ns : List Mv} (hs : scanR bs = some (ns.map tE)) (h : wrongR ns ≠ 0 ∨ archB ns ≠ bs) : ∀ ms, wrongR ms = 0 → archB ms ≠ bs := fun ms h1 h2 => by
  have e := (arch_scan h1 h2).1
  rw [hs] at e
  have e2 : ns.map toE = ms.map toE := Option.some.inj e
  rcases h with h | h
  · exact h ((wrong_map e2).trans h1)
  · exact h ((arch_map e2).trans h2)
theorem cutP_some {b c d x y : Bs} (h : cutP b = some (c, d, x, y)) : c.length ≤ 16 ∧ d.length ≤ 16 ∧ x.length ≤ b.length ∧ y.length + 60 ≤ b.length := by
  unfold cutP at h
  split at h
  · cases h
  · rename_i hl
    split at h
    · cases h
    · split at h
      · have e := Option.some.inj h
        have e1 := congrArg Prod.fst e
        have e2 := congrArg (fun p => p.2.1) e
        have e3 := congrArg (fun p => p.2.2.1) e
        have e4 := congrArg (fun p => p.2.2.2) e
        dsimp only at e1 e2 e3 e4
        subst e1 e2 e3 e4
        have t1 := trimR_len (b.take 16)
        have t2 := trimR_len ((b.drop 16).take 12)
        have t3 := List.length_take_le 16 b
        have t4 := List.length_take_le 12 (b.drop 16)
        refine ⟨by omega, by omega, ?_, ?_⟩
        · rw [List.length_take, List.length_drop]; omega
        · rw [List.length_drop, List.length_drop]; omega
      · cases h
theorem scan_end (k : Nat) (t : Bs) (l : List Mm) : scanP k t [] l = some l := by
  cases k <;> simp [scanP]
theorem scan_none {k : Nat} {t r : Bs} {l : List Mm} (hr : r ≠ []) (h : cutP r = none) : scanP (k + 1) t r l = none := by
  rw [scanP, if_neg hr, h]
theorem scan_tab {k : Nat} {t r c d x y : Bs} {l : List Mm} (hr : r ≠ []) (h : cutP r = some (c, d, x, y)) (hc : c = [47, 47]) : scanP (k + 1) t r l = scanP k x y l := by
  rw [scanP, if_neg hr, h]
  dsimp only
  rw [if_pos hc]
theorem scan_mem {k : Nat} {t r c d x y n : Bs} {v : Nat} {l : List Mm} (hr : r ≠ []) (h : cutP r = some (c, d, x, y)) (hc : c ≠ [47, 47]) (hn : nameP c t = some n) (hv : valP d = some v) : scanP (k + 1) t r l = scanP k t y (l ++ [(n, (v : Int), x)]) := by
  rw [scanP, if_neg hr, h]
  dsimp only
  rw [if_neg hc, hn, hv]
theorem scan_bad {k : Nat} {t r c d x y : Bs} {l : List Mm} (hr : r ≠ []) (h : cutP r = some (c, d, x, y)) (hc : c ≠ [47, 47]) (hn : nameP c t = none ∨ valP d = none) : scanP (k + 1) t r l = none := by
  rw [scanP, if_neg hr, h]
  dsimp only
  rw [if_neg hc]
  rcases hn with hn | hn
  · rw [hn]
  · rw [hn]
    cases nameP c t <;> rfl
/-- small lists are fine -/
theorem fine_small {ms : List Mv} (hl : ms.length ≤ 5001) (h : ∀ m ∈ ms, m.name.length ≤ 70000 ∧ m.data.length ≤ 70000) : Fine ms := by
  have h0 : ∀ l : List Mv, (∀ m ∈ l, m.name.length ≤ 70000 ∧ m.data.length ≤ 70000) → sumM wtD l ≤ 80000 * l.length ∧ sumM wtT l ≤ 80000 * l.length := by
    intro l
    induction l with
    | nil => intro _; simp [sumM]
    | cons m r ih =>
      intro h
      obtain ⟨a, b⟩ := h m (List.mem_cons_self ..)
      have := ih fun n hn => h n (List.mem_cons_of_mem _ hn)
      have h1 : wtD m ≤ 80000 := by unfold wtD evn; omega
      have h2 : wtT m ≤ 80000 := by unfold wtT; split <;> omega
      simp only [sumM, List.length_cons]
      omega
  obtain ⟨h1, h2⟩ := h0 ms h
  refine ⟨by omega, ?_, fun m hm => by have := h m hm; omega⟩
  unfold lenA evn
  split <;> omega
end Go.Proofs.YtcijjigafcpcpaaGreatDoor
