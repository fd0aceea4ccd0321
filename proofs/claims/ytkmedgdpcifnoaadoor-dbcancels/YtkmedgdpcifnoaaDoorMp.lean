/- The maps of package db: their keys, what they hold, how they are asked and written. -/
import Derived.Test.YtkmedgdpcifnoaaDoorLs
import Derived.Maps.OwnRows
import Derived.Maps.OwnSet
import Derived.Maps.Views
import Derived.Maps.GroupsBeside
import Derived.DeepKeys5
import Derived.Lib.ItoaNum
namespace Go.Proofs.YtkmedgdpcifnoaaDoor
open Go.RowKit Go.Maps Go.ChangeShapes

theorem laidOut : laidOutB Tryd.prog = true := by kernel_rfl
theorem tsize : Tryd.prog.types.size + 2 ≤ 10000 := of_decide_eq_true (by kernel_rfl)
theorem key9 : Keyed Tryd.prog 9 := string_keyed Tryd.underlying9
theorem kt75 : Tryd.prog.keyType 75 = true := by kernel_rfl
theorem kt98 : Tryd.prog.keyType 98 = true := by kernel_rfl
theorem cells75 : Tryd.prog.cellsOf 75 = 2 := by kernel_rfl
theorem cells98 : Tryd.prog.cellsOf 98 = 2 := by kernel_rfl
theorem cells9 : Tryd.prog.cellsOf 9 = 1 := by kernel_rfl
theorem cells3 : Tryd.prog.cellsOf 3 = 1 := by kernel_rfl
theorem lt_of_blt {n m : Nat} (h : Nat.blt n m = true) : n < m := by simpa using h
theorem row75B : Nat.blt 75 Tryd.prog.types.size = true := by kernel_rfl
theorem row75 : (75 : TypeId) < Tryd.prog.types.size := lt_of_blt row75B
theorem row98B : Nat.blt 98 Tryd.prog.types.size = true := by kernel_rfl
theorem row98 : (98 : TypeId) < Tryd.prog.types.size := lt_of_blt row98B
theorem key75 : Keyed Tryd.prog 75 := Keyed.of_law (deep_law_gate laidOut tsize row75 kt75 (by rw [Tryd.underlying75]))
theorem key98 : Keyed Tryd.prog 98 := Keyed.of_law (deep_law_gate laidOut tsize row98 kt98 (by rw [Tryd.underlying98]))
theorem keyOf9 (x : Bs) (h : x.length ≤ maxLen) : keyOf Tryd.prog 9 (sV x) = some (.string x) := by
  have := Go.WideMaps.keyOf_string_mk (P := Tryd.prog) Tryd.underlying9 (s := mk x) (by rw [mk_size]; exact h)
  simpa using this
/-- a mention as a value, and as a key -/
abbrev mV (x : Bs) (h : Nat) : Value := .agg #[sV x, .int .i64 h]
def mK (x : Bs) (h : Nat) : Lit := .string (keyBytes [.string x, .int .i64 h])
abbrev hV (a b : Bs) : Value := .agg #[sV a, sV b]
def hK (a b : Bs) : Lit := .string (keyBytes [.string a, .string b])
theorem kl_pair {P : Program} {d : Nat} {t : TypeId} {fs : Array Field} {cs : List Value} (h : P.underlying t = some (.struct fs)) (hc : cs.length = P.cellsOf t) (hn : fs.all (·.name != "_") = true) :
    P.keyLits (d + 1) t cs = (fs.toList.mapM fun f => P.keyLits d f.type ((cs.drop f.offset).take (P.cellsOf f.type))).map List.flatten := by
  conv => lhs; unfold Program.keyLits
  rw [h]
  simp only [hc, hn, and_self, if_true]
theorem kl_str {P : Program} {d : Nat} {t : TypeId} (h : P.underlying t = some .string) (s : ByteArray) (hs : s.size ≤ maxLen) : P.keyLits (d + 1) t [.string s] = some [.string s.data.toList] := by
  unfold Program.keyLits
  rw [h]
  simp only [hs, if_true]
theorem kl_int {P : Program} {d : Nat} {t : TypeId} (h : P.underlying t = some (.int .i64)) (n : Int) (hw : (Lit.int .i64 n).wf = true) : P.keyLits (d + 1) t [.int .i64 n] = some [.int .i64 n] := by
  unfold Program.keyLits
  rw [h]
  simp only [hw, and_self, if_true]
theorem keyOf75 (x : Bs) (h : Nat) (hx : x.length ≤ maxLen) (hh : h ≤ 9) : keyOf Tryd.prog 75 (mV x h) = some (mK x h) := by
  have hs : (mk x).size ≤ maxLen := by rw [mk_size]; exact hx
  have hw : (Lit.int .i64 (h : Int)).wf = true := WalkArith.wf_i64 (by omega)
  obtain ⟨d, hd⟩ : ∃ d, Tryd.prog.types.size = d + 1 := ⟨Tryd.prog.types.size - 1, by have h1 : (75 : Nat) < Tryd.prog.types.size := row75; omega⟩
  have hf : (mV x h).formed Tryd.prog 75 = true := by simp [Value.formed, Tryd.underlying75, cells75]
  unfold keyOf
  rw [Tryd.underlying75]
  simp only [kt75, hf, Bool.and_self, if_true, hd, Value.cells]
  rw [kl_pair Tryd.underlying75 (by rw [cells75]; rfl) (by kernel_rfl)]
  simp only [List.mapM_cons, List.mapM_nil, List.drop, List.take, cells9, cells3]
  rw [kl_str Tryd.underlying9 (mk x) hs, kl_int Tryd.underlying3 (h : Int) hw]
  rfl
theorem keyOf98 (a b : Bs) (ha : a.length ≤ maxLen) (hb : b.length ≤ maxLen) : keyOf Tryd.prog 98 (hV a b) = some (hK a b) := by
  have hs : (mk a).size ≤ maxLen := by rw [mk_size]; exact ha
  have hs' : (mk b).size ≤ maxLen := by rw [mk_size]; exact hb
  obtain ⟨d, hd⟩ : ∃ d, Tryd.prog.types.size = d + 1 := ⟨Tryd.prog.types.size - 1, by have h1 : (98 : Nat) < Tryd.prog.types.size := row98; omega⟩
  have hf : (hV a b).formed Tryd.prog 98 = true := by simp [Value.formed, Tryd.underlying98, cells98]
  unfold keyOf
  rw [Tryd.underlying98]
  simp only [kt98, hf, Bool.and_self, if_true, hd, Value.cells]
  rw [kl_pair Tryd.underlying98 (by rw [cells98]; rfl) (by kernel_rfl)]
  simp only [List.mapM_cons, List.mapM_nil, List.drop, List.take, cells9]
  rw [kl_str Tryd.underlying9 (mk a) hs, kl_str Tryd.underlying9 (mk b) hs']
  rfl
theorem isKey (l : List UInt8) : WideAt.IsKeyLit (.string l) := trivial
theorem isKeyM (x : Bs) (h : Nat) : WideAt.IsKeyLit (mK x h) := trivial
theorem isKeyH (a b : Bs) : WideAt.IsKeyLit (hK a b) := trivial
/-- other mentions are other keys -/
theorem mK_ne {x y : Bs} {h g : Nat} (hx : x.length ≤ maxLen) (hy : y.length ≤ maxLen) (hh : h ≤ 9) (hg : g ≤ 9) (hne : ¬ (y = x ∧ g = h)) : mK y g ≠ mK x h := by
  intro e
  have h1 := keyOf75 x h hx hh
  have h2 := keyOf75 y g hy hg
  rw [e] at h2
  have := key75.inj h2 h1
  simp only [mV, Value.agg.injEq, Array.mk.injEq, List.cons.injEq, Value.string.injEq, Value.int.injEq, true_and, and_true] at this
  exact hne ⟨mk_inj this.1, by omega⟩
theorem hK_ne {a b c d : Bs} (ha : a.length ≤ maxLen) (hb : b.length ≤ maxLen) (hc : c.length ≤ maxLen) (hd : d.length ≤ maxLen) (hne : ¬ (c = a ∧ d = b)) : hK c d ≠ hK a b := by
  intro e
  have h1 := keyOf98 a b ha hb
  have h2 := keyOf98 c d hc hd
  rw [e] at h2
  have := key98.inj h2 h1
  simp only [hV, Value.agg.injEq, Array.mk.injEq, List.cons.injEq, Value.string.injEq, and_true] at this
  exact hne ⟨mk_inj this.1, mk_inj this.2⟩
theorem zero86 (w : World) : (zeroValue 86).run Tryd.prog w = .ok (.agg #[]) w := by kernel_rfl
theorem zero3 (w : World) : (zeroValue 3).run Tryd.prog w = .ok (.int .i64 0) w := by kernel_rfl
theorem zero46 (w : World) : (zeroValue 46).run Tryd.prog w = .ok (.slice none 0 0) w := by kernel_rfl

/-- a set of texts: block M -/
def SetAt (w : World) (M : Nat) (l : List Bs) : Prop := ∃ D : DataW Unit, w.ownsMap Tryd.prog 9 unitElem M l.length D ∧ ∀ x : Bs, has D (.string x) = hasB l x
section
variable {w : World} {M : Nat} {l : List Bs}
theorem SetAt.lt (h : SetAt w M l) : M < w.heap.size := by obtain ⟨D, h, _⟩ := h; exact h.lt
theorem SetAt.made (w : World) : SetAt (w.alloc (.map #[] 0)) w.heap.size [] := ⟨_, World.ownsMap_made w Tryd.prog 9 unitElem, fun _ => rfl⟩
theorem SetAt.block {w' : World} (h : SetAt w M l) (hk : w'.heap[M]? = w.heap[M]?) : SetAt w' M l := by
  obtain ⟨D, ⟨es, clock, hb, r⟩, h2⟩ := h
  exact ⟨D, ⟨es, clock, hk.trans hb, r⟩, h2⟩
theorem SetAt.below {w' : World} (h : SetAt w M l) (hb : Below w.heap.size w w') : SetAt w' M l := h.block (hb.block M h.lt)
theorem SetAt.look (h : SetAt w M l) (x : Bs) (hx : x.length ≤ maxLen) : (Instr.lookup 58 (.map (some M)) (sV x) true).run Tryd.prog w = .ok (.tuple #[.agg #[], .bool (hasB l x)]) w := by
  obtain ⟨D, h1, h2⟩ := h
  obtain ⟨v, ps, hr, hv⟩ := World.ownsMap.look_ok h1 key9 Tryd.underlying58 (zero86 w) unitElem_mk (keyOf9 x hx)
  rw [hr, h2]
  rw [(unitElem_inv hv).1]
theorem hasB_snoc (l : List Bs) (x y : Bs) : hasB (l ++ [x]) y = (hasB l y || x == y) := by simp [hasB]
theorem SetAt.put (h : SetAt w M l) (hl : l.length ≤ 1000000000) (x : Bs) (hx : x.length ≤ maxLen) : ∃ w', (Instr.mapUpdate 58 (.map (some M)) (sV x) (.agg #[])).run Tryd.prog w = .ok () w' ∧ SetAt w' M (l ++ [x]) ∧ w.grownBy w' (some M) := by
  obtain ⟨D, h1, h2⟩ := h
  obtain ⟨w', hr, h3, h4⟩ := World.ownsMap.update h1 key9 Tryd.underlying58 (by unfold maxLen; omega) (keyOf9 x hx) unitElem_mk
  refine ⟨w', hr, ⟨_, by rw [List.length_append]; exact h3, fun y => ?_⟩, h4⟩
  rw [hasB_snoc]
  by_cases e : y = x
  · subst e
    rw [has_put_same h1.isMap (isKey _)]
    simp
  · rw [has_put_other (by intro e1; exact e (by injection e1)), h2]
    have : (x == y) = false := beq_eq_false_iff_ne.2 (fun e1 => e e1.symm)
    rw [this, Bool.or_false]
end
/- the places of mentions -/
def items : DataW Unit → List (DataW Unit)
  | .slice es _ => es
  | _ => []
def nI (l : List Nat) : List Int := l.map Int.ofNat
theorem nI_len (l : List Nat) : (nI l).length = l.length := List.length_map ..
theorem lits_inj : ∀ {a b : List Int}, lits (H := Unit) .i64 a = lits .i64 b → a = b
  | [], [], _ => rfl
  | [], _ :: _, h => by simp [lits] at h
  | _ :: _, [], h => by simp [lits] at h
  | x :: a, y :: b, h => by
    simp only [lits, List.map_cons, List.cons.injEq, DataW.lit.injEq, Lit.int.injEq, true_and] at h
    rw [h.1, lits_inj (a := a) (b := b) h.2]
/-- block M: the places of each mention; their rows lie from B on -/
def GrAt (w : World) (B M n : Nat) (f : Pf) : Prop := ∃ D : DataW Unit, w.ownsGroups Tryd.prog 75 B 3 .i64 M n D ∧ ∀ (x : Bs) (h : Nat), x.length ≤ maxLen → h ≤ 9 → items (D.atKey (mK x h) .nil) = lits .i64 (nI (f x h))
def upd (f : Pf) (x : Bs) (g : Nat) (l : List Nat) : Pf := fun y k => if y = x ∧ k = g then l else f y k
theorem items_row {w : World} {B : Nat} {v : Value} {zs : List Int} (h : w.ownsInts B 3 .i64 v zs) : items (rowDatum .i64 v zs) = lits .i64 zs := by
  rcases h.datum (H := Unit) with ⟨h1, h2⟩ | h1
  · rw [h1, h2]; rfl
  · rw [h1]; rfl
section
variable {w : World} {B M n : Nat} {f : Pf}
theorem GrAt.lt (h : GrAt w B M n f) : M < w.heap.size := by obtain ⟨D, ⟨es, clock, hb, _⟩, _⟩ := h; exact lt_of_block hb
theorem GrAt.made (w : World) : GrAt (w.alloc (.map #[] 0)) (w.heap.size + 1) w.heap.size 0 (fun _ _ => []) := ⟨_, World.ownsGroups_made w Tryd.prog 75 3 .i64, fun _ _ _ _ => rfl⟩
theorem GrAt.look (h : GrAt w B M n f) (hn : n ≤ 1000000000) (x : Bs) (g : Nat) (hx : x.length ≤ maxLen) (hg : g ≤ 9) :
    ∃ v, (Instr.lookup 55 (.map (some M)) (mV x g) false).run Tryd.prog w = .ok v w ∧ w.ownsInts B 3 .i64 v (nI (f x g)) ∧ (f x g).length ≤ n ∧
      ∀ (w1 : World) (v' : Value) (l' : List Nat), w.grownBy w1 v.ownBlock → w1.ownsInts B 3 .i64 v' (nI l') → l'.length ≤ n + 1 → (v'.ownBlock = v.ownBlock ∨ ∃ k, v'.ownBlock = some k ∧ w.heap.size ≤ k) →
        ∃ w2, (Instr.mapUpdate 55 (.map (some M)) (mV x g) v').run Tryd.prog w1 = .ok () w2 ∧ GrAt w2 B M (n + 1) (upd f x g l') ∧ w1.grownBy w2 (some M) := by
  obtain ⟨D, h1, h2⟩ := h
  have hD : IsMap D := by obtain ⟨es, clock, hb, F, hs, rfl, _⟩ := h1; exact ⟨_, rfl⟩
  obtain ⟨v, zs, hr, hat, hoi, hzl, hback⟩ := h1.at key75 Tryd.underlying55 (zero46 w) (by unfold maxLen; omega) (keyOf75 x g hx hg)
  have hz : zs = nI (f x g) := by
    have := h2 x g hx hg
    rw [hat, items_row hoi] at this
    exact lits_inj this
  subst hz
  rw [nI_len] at hzl
  refine ⟨v, hr, hoi, hzl, fun w1 v' l' hgr ho' hl' hloc => ?_⟩
  obtain ⟨w2, hr2, ho2, hg2⟩ := hback w1 v' (nI l') hgr ho' (by rw [nI_len]; exact hl') hloc
  refine ⟨w2, hr2, ⟨_, ho2, fun y k hy hk => ?_⟩, hg2⟩
  unfold upd
  by_cases e : y = x ∧ k = g
  · rw [if_pos e, e.1, e.2, atKey_put_same hD (isKeyM _ _), items_row ho']
  · rw [if_neg e, atKey_put_other (mK_ne hx hy hg hk e)]
    exact h2 y k hy hk
theorem GrAt.below {w' : World} (h : GrAt w B M n f) (hb : Below w.heap.size w w') : GrAt w' B M n f := by
  have hM := h.lt
  obtain ⟨D, h1, h2⟩ := h
  exact ⟨D, h1.kept (row := none) ⟨hb.os, hb.tape, hb.output, hb.size, fun k hk _ => hb.block k hk⟩ (by simp) (fun _ _ _ x _ => by cases x.val.ownBlock <;> simp), h2⟩
/-- a block of another type is written -/
theorem GrAt.other {w' : World} (h : GrAt w B M n f) {A : Nat} {cs : Array Value} {t : TypeId} {fz : Nat × Nat} (hA : w.heap[A]? = some (.cells cs t fz)) (ht : t ≠ 3) (hg : w.grownBy w' (some A)) : GrAt w' B M n f := by
  obtain ⟨D, h1, h2⟩ := h
  refine ⟨D, h1.kept hg ?_ ?_, h2⟩
  · obtain ⟨es, clock, hb, _⟩ := h1
    intro e
    rw [Option.some.inj e, hA] at hb
    cases hb
  · intro es clock hb x hx
    obtain ⟨es', clock', hb', F, _⟩ := h1
    obtain ⟨rfl, rfl⟩ : es' = es ∧ clock' = clock := by rw [hb'] at hb; simpa using hb
    obtain ⟨y, hy⟩ := F.reads x hx
    obtain ⟨z, hz, _⟩ := Go.WideElems.rd_val hy
    obtain ⟨zs, hoi, _⟩ := rowElem_inv hz
    right
    intro e
    exact own_block hoi.1 hA ht e
end
/- the last place of a shape -/
def ShAt (w : World) (M n : Nat) (kp : List Bs → Bs) (f : Lf) : Prop := ∃ D : DataW Unit, w.ownsMap Tryd.prog 98 (plainElem Tryd.prog 3) M n D ∧ ∀ a b : List Bs, (kp a).length ≤ maxLen → (kp b).length ≤ maxLen →
  has D (hK (kp a) (kp b)) = (f a b).isSome ∧ D.atKey (hK (kp a) (kp b)) (.lit (.int .i64 0)) = .lit (.int .i64 ((f a b).getD 0))
section
variable {w : World} {M n : Nat} {kp : List Bs → Bs} {f : Lf}
theorem ShAt.lt (h : ShAt w M n kp f) : M < w.heap.size := by obtain ⟨D, h, _⟩ := h; exact h.lt
theorem ShAt.made (w : World) (kp : List Bs → Bs) : ShAt (w.alloc (.map #[] 0)) w.heap.size 0 kp (fun _ _ => none) := ⟨_, World.ownsMap_made w Tryd.prog 98 _, fun _ _ _ _ => ⟨rfl, rfl⟩⟩
theorem ShAt.block {w' : World} (h : ShAt w M n kp f) (hk : w'.heap[M]? = w.heap[M]?) : ShAt w' M n kp f := by
  obtain ⟨D, ⟨es, clock, hb, r⟩, h2⟩ := h
  exact ⟨D, ⟨es, clock, hk.trans hb, r⟩, h2⟩
theorem ShAt.below {w' : World} (h : ShAt w M n kp f) (hb : Below w.heap.size w w') : ShAt w' M n kp f := h.block (hb.block M h.lt)
theorem pe_int (z : Int) (hz : (Lit.int .i64 z).wf = true) : plainElem (H := Unit) Tryd.prog 3 (.int .i64 z) = some (.lit (.int .i64 z), []) := plainElem_int Tryd.underlying3 hz
theorem ShAt.look (h : ShAt w M n kp f) (a b : List Bs) (ha : (kp a).length ≤ maxLen) (hb : (kp b).length ≤ maxLen) : (Instr.lookup 96 (.map (some M)) (hV (kp a) (kp b)) false).run Tryd.prog w = .ok (.int .i64 ((f a b).getD 0)) w := by
  obtain ⟨D, h1, h2⟩ := h
  obtain ⟨c, hr, hat, _⟩ := World.ownsMap.lookup_int h1 key98 Tryd.underlying96 Tryd.underlying3 (zero3 w) (keyOf98 _ _ ha hb)
  rw [hr]
  have := (h2 a b ha hb).2
  rw [hat] at this
  simp only [DataW.lit.injEq, Lit.int.injEq, true_and] at this
  rw [this]
theorem ShAt.look2 (h : ShAt w M n kp f) (a b : List Bs) (ha : (kp a).length ≤ maxLen) (hb : (kp b).length ≤ maxLen) : (Instr.lookup 96 (.map (some M)) (hV (kp a) (kp b)) true).run Tryd.prog w = .ok (.tuple #[.int .i64 ((f a b).getD 0), .bool (f a b).isSome]) w := by
  obtain ⟨D, h1, h2⟩ := h
  obtain ⟨v, ps, hr, hv⟩ := World.ownsMap.look_ok h1 key98 Tryd.underlying96 (zero3 w) (pe_int 0 (by decide)) (keyOf98 _ _ ha hb)
  rw [hr, (h2 a b ha hb).1]
  rw [(h2 a b ha hb).2] at hv
  obtain ⟨c, rfl, hc, _⟩ := plainElem_int_inv Tryd.underlying3 hv
  simp only [Prod.mk.injEq, DataW.lit.injEq, Lit.int.injEq, true_and] at hc
  rw [hc.1]
theorem ShAt.put (h : ShAt w M n kp f) (hinj : ∀ a b, kp a = kp b → a = b) (hn : n ≤ 1000000000) (a b : List Bs) (ha : (kp a).length ≤ maxLen) (hb : (kp b).length ≤ maxLen) (i : Nat) (hi : i ≤ 1000000000) :
    ∃ w', (Instr.mapUpdate 96 (.map (some M)) (hV (kp a) (kp b)) (.int .i64 i)).run Tryd.prog w = .ok () w' ∧ ShAt w' M (n + 1) kp (fun c d => if c = a ∧ d = b then some i else f c d) ∧ w.grownBy w' (some M) := by
  obtain ⟨D, h1, h2⟩ := h
  obtain ⟨w', hr, h3, h4⟩ := World.ownsMap.update h1 key98 Tryd.underlying96 (by unfold maxLen; omega) (keyOf98 _ _ ha hb) (pe_int (i : Int) (WalkArith.wf_i64 (by omega)))
  refine ⟨w', hr, ⟨_, h3, fun c d hc hd => ?_⟩, h4⟩
  dsimp only
  by_cases e : c = a ∧ d = b
  · rw [if_pos e, e.1, e.2, has_put_same h1.isMap (isKeyH _ _), atKey_put_same h1.isMap (isKeyH _ _)]
    exact ⟨rfl, rfl⟩
  · have hne : hK (kp c) (kp d) ≠ hK (kp a) (kp b) := hK_ne ha hb hc hd (fun e1 => e ⟨hinj _ _ e1.1, hinj _ _ e1.2⟩)
    rw [if_neg e, has_put_other hne, atKey_put_other hne]
    exact h2 c d hc hd
end
end Go.Proofs.YtkmedgdpcifnoaaDoor
