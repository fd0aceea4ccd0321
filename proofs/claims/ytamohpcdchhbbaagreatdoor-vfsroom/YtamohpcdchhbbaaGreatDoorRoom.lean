/- The law VfsRoom, walked. -/
import Derived.Test.YtamohpcdchhbbaaGreatDoorAlive
import Derived.Test.YtamohpcdchhbbaaGreatDoorTreeNone
import Derived.Laws.MakeOwn
namespace Go.Proofs.YtamohpcdchhbbaaGreatDoor
open Go.RowKit Go.Maps

def zeros (n : Nat) : Bs := List.replicate n 0
theorem zeros_len (n : Nat) : (zeros n).length = n := List.length_replicate
/-- make([]byte, n) -/
theorem made (n : Nat) (hn : n ≤ 1000000) : ∃ mkw : World → World, (∀ W, (Instr.makeSlice 43 (.int .i64 (n : Int)) (.int .i64 (n : Int))).run Tryz.prog W = .ok (.slice (some ⟨W.heap.size, 0, none⟩) n n) (mkw W)) ∧
    (∀ W, Rds (mkw W) (.slice (some ⟨W.heap.size, 0, none⟩) n n) (zeros n)) ∧ (∀ W, Below W.heap.size W (mkw W)) := by
  obtain ⟨i0, hi, hz0, hz1, hz2⟩ := info_parts info5
  refine ⟨fun W => W.alloc (.cells (madeCells #[.int .u8 0] n) 5), fun W => ?_, fun W => ?_, fun W => (Below.refl _ _).alloc (Nat.le_refl _) _⟩
  · have := run_make (P := Tryz.prog) (w := W) 43 5 i0 (.int .u8 0) Tryz.underlying43 hi hz0 .i64 .i64 (n : Int) (n : Int) (by omega) (by omega) (by rw [hz2]; omega) (by omega)
    rw [hz1] at this
    simpa [Value.cells] using this
  · refine .inr ⟨⟨W.heap.size, 0, none⟩, n, by rw [zeros_len], fun _ => by simp, fun j u hj => ?_⟩
    rw [add_zero, Lib.cell_of_heap (alloc_new W _)]
    have hjn : j < n := by
      have := (List.getElem?_eq_some_iff.1 hj).1
      rw [Lib.byteCells_length, zeros_len] at this
      exact this
    have hu : u = .int .u8 0 := by
      have e : (Lib.byteCells (zeros n))[j]? = some (.int .u8 0) := by simp [Lib.byteCells, zeros, hjn]
      rw [e] at hj
      exact (Option.some.inj hj).symm
    subst hu
    simp [madeCells, hjn]
    rw [Nat.mod_one]
    rfl
def nA (f : Nat) : Bs × Nd := ([97], ⟨false, 1, zeros f⟩)
theorem room_new (rm : Int) (h0 : 2 ≤ rm) (h1 : rm ≤ 60000) : newR [] 0 rm = .inr [] := by
  rw [newR_some (ah := []) (T := []) rfl (by unfold okTree; omega) rfl]
  rw [if_neg (by show ¬ rm < 0; omega)]
theorem room_a (f : Nat) (rm : Int) (hf : f ≤ 60000) (h : (f : Int) + 1 ≤ rm) : writeR [] 0 rm (clean (tl { data := #[97] })) (zeros f) false = (0, [nA f], 1) := by
  have e : writeR [] 0 rm (clean (tl { data := #[97] })) (zeros f) false = if 65536 < (zeros f).length then (2, [], 0) else putR [] 0 rm [97] ⟨false, 0, zeros f⟩ := by rfl
  rw [e, if_neg (by rw [zeros_len]; omega)]
  unfold putR
  rw [if_pos]
  · rfl
  · refine ⟨by show (1 : Nat) ≤ 1000; omega, ?_⟩
    show ((1 + (zeros f).length + 0 : Nat) : Int) ≤ rm
    rw [zeros_len]; omega
theorem room_a_no (f : Nat) (rm : Int) (hf : f ≤ 60000) (h : ¬ (f : Int) + 1 ≤ rm) : writeR [] 0 rm (clean (tl { data := #[97] })) (zeros f) false = (15, [], 0) := by
  have e : writeR [] 0 rm (clean (tl { data := #[97] })) (zeros f) false = if 65536 < (zeros f).length then (2, [], 0) else putR [] 0 rm [97] ⟨false, 0, zeros f⟩ := by rfl
  rw [e, if_neg (by rw [zeros_len]; omega)]
  unfold putR
  rw [if_neg]
  rintro ⟨_, q⟩
  have : ((1 + (zeros f).length + 0 : Nat) : Int) ≤ rm := q
  rw [zeros_len] at this; omega
def nB (t : Int) (d : Bs) : Bs × Nd := ([98], ⟨false, t, d⟩)
theorem room_b (f : Nat) (rm : Int) (h : (f : Int) + 2 ≤ rm) : writeR [nA f] 1 rm (clean (tl { data := #[98] })) [] false = (0, [nA f, nB 2 []], 2) := by
  have e : writeR [nA f] 1 rm (clean (tl { data := #[98] })) [] false = putR [nA f] 1 rm [98] ⟨false, 0, []⟩ := by rfl
  rw [e]
  unfold putR
  rw [if_pos]
  · rfl
  · refine ⟨by show (2 : Nat) ≤ 1000; omega, ?_⟩
    show ((1 + (zeros f).length + (1 + 0 + 0) : Nat) : Int) ≤ rm
    rw [zeros_len]; omega
theorem room_b_no (f : Nat) (rm : Int) (h : ¬ (f : Int) + 2 ≤ rm) : writeR [nA f] 1 rm (clean (tl { data := #[98] })) [] false = (15, [nA f], 1) := by
  have e : writeR [nA f] 1 rm (clean (tl { data := #[98] })) [] false = putR [nA f] 1 rm [98] ⟨false, 0, []⟩ := by rfl
  rw [e]
  unfold putR
  rw [if_neg]
  rintro ⟨_, q⟩
  have : ((1 + (zeros f).length + (1 + 0 + 0) : Nat) : Int) ≤ rm := q
  rw [zeros_len] at this; omega
theorem room_rm (f : Nat) : removeR [nA f] 1 (clean (tl { data := #[97] })) = (0, [], 2) := by rfl
theorem room_d (g : Nat) (rm : Int) (hg : g ≤ 60000) (h : (g : Int) + 1 ≤ rm) : writeR [] 2 rm (clean (tl { data := #[98] })) (zeros g) false = (0, [nB 3 (zeros g)], 3) := by
  have e : writeR [] 2 rm (clean (tl { data := #[98] })) (zeros g) false = if 65536 < (zeros g).length then (2, [], 2) else putR [] 2 rm [98] ⟨false, 0, zeros g⟩ := by rfl
  rw [e, if_neg (by rw [zeros_len]; omega)]
  unfold putR
  rw [if_pos]
  · rfl
  · refine ⟨by show (1 : Nat) ≤ 1000; omega, ?_⟩
    show ((1 + (zeros g).length + 0 : Nat) : Int) ≤ rm
    rw [zeros_len]; omega
theorem room_c (f g : Nat) (rm : Int) (hg : g ≤ 60000) (h : (f : Int) + g + 2 ≤ rm) : writeR [nA f, nB 2 []] 2 rm (clean (tl { data := #[98] })) (zeros g) true = (0, [nA f, nB 3 (zeros g)], 3) := by
  have e : writeR [nA f, nB 2 []] 2 rm (clean (tl { data := #[98] })) (zeros g) true = if 65536 < 0 + (zeros g).length then (2, [nA f, nB 2 []], 2) else putR [nA f, nB 2 []] 2 rm [98] ⟨false, 0, zeros g⟩ := by rfl
  rw [e, if_neg (by rw [zeros_len]; omega)]
  unfold putR
  rw [if_pos]
  · rfl
  · refine ⟨by show (2 : Nat) ≤ 1000; omega, ?_⟩
    show ((1 + (zeros f).length + (1 + (zeros g).length + 0) : Nat) : Int) ≤ rm
    rw [zeros_len, zeros_len]; omega
theorem room_e (f g : Nat) (rm : Int) (hg : g ≤ 60000) (h : rm < (f : Int) + g + 3) : writeR [nA f, nB 3 (zeros g)] 3 rm (clean (tl { data := #[98] })) [1] true = (15, [nA f, nB 3 (zeros g)], 3) := by
  have e : writeR [nA f, nB 3 (zeros g)] 3 rm (clean (tl { data := #[98] })) [1] true = if 65536 < (zeros g).length + 1 then (2, [nA f, nB 3 (zeros g)], 3) else putR [nA f, nB 3 (zeros g)] 3 rm [98] ⟨false, 0, zeros g ++ [1]⟩ := by rfl
  rw [e, if_neg (by rw [zeros_len]; omega)]
  unfold putR
  rw [if_neg]
  rintro ⟨_, q⟩
  have : ((1 + (zeros f).length + (1 + (zeros g ++ [1]).length + 0) : Nat) : Int) ≤ rm := q
  rw [List.length_append, zeros_len, zeros_len] at this
  simp only [List.length_singleton] at this; omega
theorem room_stat (f g : Nat) : statR [nA f, nB 3 (zeros g)] (clean (tl { data := #[98] })) = ((1 : Int), (3 : Int), (g : Int)) := by
  have e : statR [nA f, nB 3 (zeros g)] (clean (tl { data := #[98] })) = ((1 : Int), (3 : Int), (((zeros g).length : Nat) : Int)) := by rfl
  rw [e, zeros_len]
end Go.Proofs.YtamohpcdchhbbaaGreatDoor
