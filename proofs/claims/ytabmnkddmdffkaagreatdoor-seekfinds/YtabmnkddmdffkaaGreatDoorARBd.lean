import Derived.Test.YtabmnkddmdffkaaGreatDoorARStrG
namespace Go.Proofs.YtabmnkddmdffkaaGreatDoor.Arc
open Go.RowKit Go.Maps
def Ful (w : World) (v : Value) (bs : Bs) : Prop := ∃ a, v = .slice (some a) bs.length bs.length ∧ Rds w v bs
def Bd (N : Nat) (w : World) (v : Value) (bs : Bs) : Prop := (Dat w v bs ∧ OwnB N v) ∨ Ful w v bs
theorem Bd.rds {N : Nat} {w : World} {v : Value} {bs : Bs} (h : Bd N w v bs) : Rds w v bs := by
 rcases h with h | ⟨a, _, h⟩
 ·exact h.1.rds
 ·exact h
theorem Bd.form {N : Nat} {w : World} {v : Value} {bs : Bs} (h : Bd N w v bs) : ∃ a n cap, v = .slice a n cap := by
 obtain ⟨a, cap, e⟩ := h.rds.len
 exact ⟨a, _, cap, e⟩
theorem Bd.below {N : Nat} {w w' : World} {v : Value} {bs : Bs} (h : Bd N w v bs) (hb : Below w.heap.size w w') : Bd N w' v bs := by
 rcases h with ⟨h, ho⟩ | ⟨a, e, h⟩
 ·exact .inl ⟨h.kept fun g hg => hb.block g (h.lt g hg), ho⟩
 ·exact .inr ⟨a, e, h.below hb⟩
set_option maxHeartbeats 1000000 in
theorem bd_append {N : Nat} {v : Value} {xs : Bs} (s : ByteArray) (ty : TypeId) (w : World) (hv : Bd N w v xs) (hN : N ≤ w.heap.size) (hp : 0 < s.size) (hsz : xs.length + s.size ≤ 1099511627776) :
  ∃ v' w', (Builtin.append_ #[57, 9] ty #[v, .string s]).run Tryz.prog w = .ok v' w' ∧ Dat w' v' (xs ++ tl s) ∧ OwnB N v' ∧ Below N w w' := by
 rcases hv with ⟨hv, ho⟩ | ⟨a, rfl, hv⟩
 ·obtain ⟨v', w', h1, h2, h3, h4⟩ := append_str s ty w hv hsz
  exact ⟨v', w', h1, h2, ho.step hN h4, below_own (Below.refl _ _) ho h3 hN⟩
 ·obtain ⟨i, hi, hz0, hz1, hz2⟩ := info_parts info5
  have hs := Src.ofString (P := Tryz.prog) w Tryz.underlying9 s
  rw [cells_tl] at hs
  have hxl := Lib.byteCells_length xs
  have hsl := tl_len s
  have hml : xs.length + s.size ≤ maxLen := by unfold maxLen; omega
  have e3 : Lib.byteCells (xs ++ tl s) = Lib.byteCells xs ++ Lib.byteCells (tl s) := Lib.byteCells_append xs (tl s)
  have hlen : (xs ++ tl s).length = xs.length + s.size := by rw [List.length_append, hsl]
  have hold : (Builtin.firstCells i.size xs.length (.slice (some a) xs.length xs.length)).run Tryz.prog w.drew = .ok (Lib.byteCells xs).toArray w.drew := by
   refine run_firstCells_some w.drew i.size xs.length a xs.length xs.length (Lib.byteCells xs) (by rw [hxl, hz1, Nat.mul_one]) fun j u hj => ?_
   rcases hv with ⟨e, _⟩ | ⟨a', cap', e, _, hcc⟩
   ·cases e
   ·cases e
    simpa using hcc j u hj
  have hr := run_append_grow_src w 57 9 ty 5 i (.int .u8 0) Tryz.underlying57 hi hz0 (some a) xs.length xs.length (Lib.byteCells xs) hold (.string s) s.size (Lib.byteCells (tl s)) (by rw [hz1]; exact hs) (by omega) (by omega)
   (by rw [hz2]; exact growslice_fits (by omega) (by omega))
  have hd := dat_new w _ (xs ++ tl s) (Value.int .u8 0).cells (grownCap w (xs.length + s.size) xs.length 5) e3.symm rfl (by rw [hlen]; exact grownCap_ge _ _ _ _) (grownCap_le_maxLen _ _ _ _ hml)
  rw [hlen] at hd
  exact ⟨_, _, hr, hd, fun g hg => by cases hg; exact hN, ⟨rfl, rfl, rfl, by simp, fun k hk => Lib.alloc_old w.drew _ k (Nat.lt_of_lt_of_le hk hN)⟩⟩
theorem wpList_append_bd {N : Nat} {v : Value} {xs : Bs} {s : ByteArray} (w : World) {ops : Array Oper} {rest : List Oper} {o : Oper} {a : Act} {Q : Exit → Act → World → Prop} (hgd : o.guard = none) (x y : Operand)
  (ho : o.op = .call { callee := .builtin .append, args := #[x, y], argTypes := #[57, 9] }) (hx : a.eval x = v) (hy : a.eval y = .string s)
  (hv : Bd N w v xs) (hN : N ≤ w.heap.size) (hp : 0 < s.size) (hsz : xs.length + s.size ≤ 1099511627776)
  (h : ∀ v' w', Dat w' v' (xs ++ tl s) → OwnB N v' → Below N w w' → wpList Tryz.prog ops Q rest (a.put o.dst v') w') :
  wpList Tryz.prog ops Q (o :: rest) a w := by
 refine wpList_plain hgd fun K hK => ?_
 obtain ⟨v', w', hr, h2, h4, h5⟩ := bd_append s o.type w hv hN hp hsz
 unfold Oper.wp execOp
 simp only [ho, resolve, invoke, builtin, Sem.run_bind, Sem.run_pure, Result.andThen_ok, List.map_toArray, List.map_cons, List.map_nil, hx, hy, hr]
 exact hK _ _ (h v' w' h2 h4 h5)
theorem wp_append_bd {N : Nat} {v : Value} {xs : Bs} {s : ByteArray} (w : World) {o : Oper} {a : Act} {K : Act → World → Prop} {Q : Exit → Act → World → Prop} (x y : Operand)
  (ho : o.op = .call { callee := .builtin .append, args := #[x, y], argTypes := #[57, 9] }) (hx : a.eval x = v) (hy : a.eval y = .string s)
  (hv : Bd N w v xs) (hN : N ≤ w.heap.size) (hp : 0 < s.size) (hsz : xs.length + s.size ≤ 1099511627776)
  (h : ∀ v' w', Dat w' v' (xs ++ tl s) → OwnB N v' → Below N w w' → K (a.put o.dst v') w') : o.wp Tryz.prog a w K Q := by
 obtain ⟨v', w', hr, h2, h4, h5⟩ := bd_append s o.type w hv hN hp hsz
 unfold Oper.wp execOp
 simp only [ho, resolve, invoke, builtin, Sem.run_bind, Sem.run_pure, Result.andThen_ok, List.map_toArray, List.map_cons, List.map_nil, hx, hy, hr]
 exact h v' w' h2 h4 h5
end Go.Proofs.YtabmnkddmdffkaaGreatDoor.Arc
