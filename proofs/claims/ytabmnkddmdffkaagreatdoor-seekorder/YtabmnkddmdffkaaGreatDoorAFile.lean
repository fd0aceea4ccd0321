/- The contracts of (*FS).look at any path, of file and fileToBe. -/
import Derived.Test.YtabmnkddmdffkaaGreatDoorALook2
import Derived.Test.YtabmnkddmdffkaaGreatDoorANum
namespace Go.Proofs.YtabmnkddmdffkaaGreatDoor
open Go.RowKit Go.Maps

theorem valid_len {p : Bs} (h : valid p = true) : p.length ≤ 1000 := by
  unfold valid at h
  simp only [Bool.and_eq_true, decide_eq_true_eq] at h
  exact h.1.1
theorem look_any (B A M : Nat) (L : Ents) (wt clk rm : Int) (p : Bs) (w : World) (E : Addr) (h : FsAt w A M L wt clk rm) (hG : Glo B w E) (hB : B ≤ w.heap.size) (hp : p.length ≤ 1000000) :
    Calls Tryz.prog 72 #[.pointer (some ⟨A, 0, none⟩), .string (mk p)] w fun r w' => LkRes w.heap.size w' r E (lookV L p) ∧ Below w.heap.size w w' := by
  unfold lookV
  cases hv : valid p with
  | true => exact look_ok B A M L wt clk rm p w E h hG hB (valid_len hv) hv
  | false => exact look_bad A p w E hp hv

/-- a file is looked for -/
def fileOf : Lk En → Lk En
  | .rt => .bad 12
  | .is e => if e.nd.dir then .bad 12 else .is e
  | x => x
theorem lookV_mem {L : Ents} {p : Bs} {e : En} (h : lookV L p = .is e) : ∃ k, (k, e) ∈ L := by
  unfold lookV at h
  split at h
  · exact lookE_mem h
  · cases h
theorem NodeAt.below {w w' : World} {e : En} (h : NodeAt w e) (hb : Below w.heap.size w w') : NodeAt w' e := (hb.block _ h.lt).trans h

set_option maxHeartbeats 1000000 in
theorem file_any (B A M : Nat) (L : Ents) (wt clk rm : Int) (p : Bs) (w : World) (E : Addr) (h : FsAt w A M L wt clk rm) (hG : Glo B w E) (hB : B ≤ w.heap.size) (hp : p.length ≤ 1000000) :
    Calls Tryz.prog 107 #[.pointer (some ⟨A, 0, none⟩), .string (mk p)] w fun r w' => LkRes w.heap.size w' r E (fileOf (lookV L p)) ∧ Below w.heap.size w w' := by
  have q := look_any B A M L wt clk rm p w E h hG hB hp
  cases hl : lookV L p with
  | bad n =>
    rw [hl] at q
    go_enter Tryz.func107, Tryz.ntmps107
    go_wp2_with fail
    refine q.mono ?_
    rintro r w1 ⟨⟨b, rfl, hf⟩, hb⟩
    go_wp2
    go_ret2
    exact ⟨⟨b, rfl, hf⟩, hb⟩
  | non =>
    rw [hl] at q
    go_enter Tryz.func107, Tryz.ntmps107
    go_wp2_with fail
    refine q.mono ?_
    rintro r w1 ⟨⟨b, rfl, hf⟩, hb⟩
    go_wp2
    go_ret2
    exact ⟨⟨b, rfl, hf⟩, hb⟩
  | rt =>
    rw [hl] at q
    go_enter Tryz.func107, Tryz.ntmps107
    go_wp2_with fail
    refine q.mono ?_
    rintro r w1 ⟨⟨b, hbN, rfl, hn⟩, hb⟩
    have c0 : w1.cell? ⟨b, 0, none⟩ = some (.bool true) := hn.c0
    go_wp2
    go_ret2
    exact ⟨⟨w1.heap.size, rfl, _, heap_alloc_new w1 _⟩, hb.alloc hb.size _⟩
  | is e =>
    rw [hl] at q
    obtain ⟨k, hm⟩ := lookV_mem hl
    have hn : NodeAt w e := h.nodes _ hm
    cases hd : e.nd.dir with
    | true =>
      have e1 : fileOf (.is e) = .bad 12 := by simp [fileOf, hd]
      rw [e1]
      go_enter Tryz.func107, Tryz.ntmps107
      go_wp2_with fail
      refine q.mono ?_
      rintro r w1 ⟨rfl, hb⟩
      have c0 := (hn.below hb).c0
      rw [hd] at c0
      go_wp2
      go_ret2
      exact ⟨⟨w1.heap.size, rfl, _, heap_alloc_new w1 _⟩, hb.alloc hb.size _⟩
    | false =>
      have e1 : fileOf (.is e) = .is e := by simp [fileOf, hd]
      rw [e1]
      go_enter Tryz.func107, Tryz.ntmps107
      go_wp2_with fail
      refine q.mono ?_
      rintro r w1 ⟨rfl, hb⟩
      have c0 := (hn.below hb).c0
      rw [hd] at c0
      go_wp2
      go_ret2
      exact ⟨rfl, hb⟩

/-- an empty file that is not in the tree -/
def newAt (b : Nat) : En := ⟨b, .slice none 0 0, ⟨false, 0, []⟩⟩
/-- what looking for a file to be answers -/
def FtRes (N : Nat) (w' : World) (r : Ending) : Lk En → Prop
  | .bad n => ∃ b, r = .returned (.tuple #[.pointer none, .iface 105 (.pointer (some ⟨b, 0, none⟩))]) ∧ Flt w' b n
  | .non => ∃ b, N ≤ b ∧ r = .returned (.tuple #[.pointer (some ⟨b, 0, none⟩), .nilIface]) ∧ NodeAt w' (newAt b)
  | .rt => False
  | .is e => r = .returned (.tuple #[.pointer (some ⟨e.blk, 0, none⟩), .nilIface])
theorem fileOf_rt {l : Lk En} (h : fileOf l = .rt) : False := by
  cases l with
  | bad n => cases h
  | non => cases h
  | rt => cases h
  | is e =>
    cases hd : e.nd.dir <;> simp [fileOf, hd] at h
set_option maxHeartbeats 1000000 in
theorem fileToBe_any (B A M : Nat) (L : Ents) (wt clk rm : Int) (p : Bs) (w : World) (E : Addr) (h : FsAt w A M L wt clk rm) (hG : Glo B w E) (hB : B ≤ w.heap.size) (hp : p.length ≤ 1000000) :
    Calls Tryz.prog 76 #[.pointer (some ⟨A, 0, none⟩), .string (mk p)] w fun r w' => FtRes w.heap.size w' r (fileOf (lookV L p)) ∧ Below w.heap.size w w' := by
  have q := file_any B A M L wt clk rm p w E h hG hB hp
  cases hl : fileOf (lookV L p) with
  | bad n =>
    rw [hl] at q
    go_enter Tryz.func76, Tryz.ntmps76
    go_wp2_with fail
    refine q.mono ?_
    rintro r w1 ⟨⟨b, rfl, hf⟩, hb⟩
    have c0 := (hG.keep (hb.mono hB)).c0
    have q2 := is_miss b n E w1 hf.c1
    go_wp2_with fail
    refine q2.mono ?_
    rintro r w2 ⟨rfl, rfl⟩
    go_wp2
    go_ret2
    exact ⟨⟨b, rfl, hf⟩, hb⟩
  | non =>
    rw [hl] at q
    go_enter Tryz.func76, Tryz.ntmps76
    go_wp2_with fail
    refine q.mono ?_
    rintro r w1 ⟨⟨b, rfl, hf⟩, hb⟩
    have c0 := (hG.keep (hb.mono hB)).c0
    have q2 := is_hit b E w1 hf.c1
    go_wp2_with fail
    refine q2.mono ?_
    rintro r w2 ⟨rfl, rfl⟩
    go_wp2
    go_ret2
    exact ⟨⟨_, hb.size, rfl, heap_alloc_new _ _⟩, hb.alloc hb.size _⟩
  | rt => exact (fileOf_rt hl).elim
  | is e =>
    rw [hl] at q
    go_enter Tryz.func76, Tryz.ntmps76
    go_wp2_with fail
    refine q.mono ?_
    rintro r w1 ⟨rfl, hb⟩
    have c0 := (hG.keep (hb.mono hB)).c0
    go_wp2_with fail
    refine (is_nil E _).mono ?_
    rintro r w2 ⟨rfl, rfl⟩
    go_wp2
    go_ret2
    exact ⟨rfl, hb⟩
end Go.Proofs.YtabmnkddmdffkaaGreatDoor
