/- The contract of anvilref10.Parts. -/
import Derived.Test.YtaemmgllhmjceaaDoorParse
import Derived.Test.YtaemmgllhmjceaaDoorRin
import Derived.Test.YtaemmgllhmjceaaDoorRscan
namespace Go.Proofs.YtaemmgllhmjceaaDoor
open Go.RowKit

/-- the list of parts and the row of bytes -/
structure QsAt (w : World) (B : Nat) (L : List Px) (row : Bs) (lv rv : Value) : Prop where
  list : w.ownsRow B 30 4 lv L.length (flatP L)
  args : ∀ x ∈ L, ArgV w B x
  row : w.ownsRow B 5 1 rv row.length (row.map bV)
theorem QsAt.below {w w' : World} {B : Nat} {L : List Px} {row : Bs} {lv rv : Value} (h : QsAt w B L row lv rv) (hb : Below w.heap.size w w') : QsAt w' B L row lv rv :=
  ⟨own_below h.list hb, fun x hx => own_below (h.args x hx) hb, own_below h.row hb⟩
theorem QsAt.none {w : World} {B : Nat} {L : List Px} {row : Bs} {lv rv : Value} (h : QsAt w B L row lv rv) : QsAt w B L [] lv (.slice none 0 0) := ⟨h.list, h.args, World.ownsRow_nil _ _ _ _⟩
section
variable {ops : Array Oper} {rest : List Oper} {o : Oper} {a : Act} {Q : Exit → Act → World → Prop} {w : World} {B : Nat} {L : List Px} {row : Bs}
/-- a part more -/
theorem wpList_addP {la : Option Addr} {m lc : Nat} {rv : Value} (hm : m = L.length) (hgd : o.guard = none) (s x : Operand) (ho : o.op = .call { callee := .builtin .append, args := #[s, x], argTypes := #[23, 23] })
    (hq : QsAt w B L row (.slice la m lc) rv) (p : Px) (k : Int) (t n : ByteArray) (av : Value) (hpc : ptC p = [.int .i64 k, .string t, .string n, av]) (hav : av.oneCell' = true) (hp : ArgV w B p) (hL : L.length ≤ 1000000) (hB : B ≤ w.heap.size)
    (hs : a.eval s = .slice la m lc) (hx : a.eval x = .slice (some ⟨w.heap.size, 0, none⟩) 1 1)
    (h : ∀ g cap w', QsAt w' B (L ++ [p]) row (.slice (some ⟨g, 0, none⟩) (m + 1) cap) rv → Below B w w' → wpList Tryd.prog ops Q rest (a.put o.dst (.slice (some ⟨g, 0, none⟩) (m + 1) cap)) w') :
    wpList Tryd.prog ops Q (o :: rest) a (w.alloc (.cells #[.int .i64 k, .string t, .string n, av] 30)) := by
  obtain ⟨inf, hi, hz0, hz1, hz2⟩ := info_parts info30
  subst hm
  have hb : Below w.heap.size w (w.alloc (.cells #[.int .i64 k, .string t, .string n, av] 30)) := (Below.refl _ w).alloc (Nat.le_refl _) _
  refine wpList_append_lies _ hgd s x 23 ho B 30 inf _ 4 64 Tryd.underlying23 hi hz0 hz1 hz2 rfl (by decide) (.slice la L.length lc) L.length (flatP L) hs (own_below hq.list hb) ⟨w.heap.size, 0, none⟩ 1 1 [.int .i64 k, .string t, .string n, av] hx rfl (new_four w k t n av 30) (by simp [Value.oneCell']; simpa [Value.oneCell'] using hav) (by decide) (by unfold maxLen; omega) (by omega) (by simp; omega) _ rfl ?_
  intro g cap w1 ho1 hg hat hlt
  have key : ∀ {e size m : Nat} {v : Value} {xs : List Value}, w.ownsRow B e size v m xs → e ≠ 30 → w1.ownsRow B e size v m xs := fun hr he => row_grow hr hq.list he hg
  refine h g cap w1 ⟨?_, fun y hy => ?_, key hq.row (by decide)⟩ ?_
  · rw [List.length_append, flatP_snoc, hpc]
    exact ho1
  · rcases List.mem_append.1 hy with hy | hy
    · exact key (hq.args y hy) (by decide)
    · obtain rfl : y = p := by simpa using hy
      exact key hp (by decide)
  · exact app_below (Below.refl _ _) hB hq.list hg
/-- a byte more -/
theorem wpList_addB {ra : Option Addr} {rc : Nat} {lv : Value} (hgd : o.guard = none) (s x : Operand) (ho : o.op = .call { callee := .builtin .append, args := #[s, x], argTypes := #[43, 43] })
    (hq : QsAt w B L row lv (.slice ra row.length rc)) (c : UInt8) (hl : row.length ≤ 1000000) (hB : B ≤ w.heap.size)
    (hs : a.eval s = .slice ra row.length rc) (hx : a.eval x = .slice (some ⟨w.heap.size, 0, none⟩) 1 1)
    (h : ∀ g cap w', QsAt w' B L (row ++ [c]) lv (.slice (some ⟨g, 0, none⟩) (row.length + 1) cap) → Below B w w' → wpList Tryd.prog ops Q rest (a.put o.dst (.slice (some ⟨g, 0, none⟩) (row.length + 1) cap)) w') :
    wpList Tryd.prog ops Q (o :: rest) a (w.alloc (.cells #[.int .u8 c.toNat] 5)) := by
  obtain ⟨inf, hi, hz0, hz1, hz2⟩ := info_parts info5
  have hb : Below w.heap.size w (w.alloc (.cells #[bV c] 5)) := (Below.refl _ w).alloc (Nat.le_refl _) _
  refine wpList_append_lies _ hgd s x 43 ho B 5 inf _ 1 1 Tryd.underlying43 hi hz0 hz1 hz2 rfl (by decide) (.slice ra row.length rc) row.length (row.map bV) hs (own_below hq.row hb) ⟨w.heap.size, 0, none⟩ 1 1 [bV c] hx rfl (new_one w (bV c) 5) (by simp [Value.oneCell', bV]) (by decide) (by unfold maxLen; omega) (by omega) (by simp; omega) _ rfl ?_
  intro g cap w1 ho1 hg hat hlt
  have key : ∀ {e size m : Nat} {v : Value} {xs : List Value}, w.ownsRow B e size v m xs → e ≠ 5 → w1.ownsRow B e size v m xs := fun hr he => row_grow hr hq.row he hg
  exact h g cap w1 ⟨key hq.list (by decide), fun y hy => key (hq.args y hy) (by decide), by simpa using ho1⟩ (app_below (Below.refl _ _) hB hq.row hg)
end
/-- what Parts tells -/
def PartsR (w' : World) (B : Nat) (e : Ending) : Option (List Pt) → Prop
  | some ps => ∃ v, e = .returned (.tuple #[v, .bool true]) ∧ PartsAt w' B v ps
  | none => e = .returned (.tuple #[.slice none 0 0, .bool false])
end Go.Proofs.YtaemmgllhmjceaaDoor
