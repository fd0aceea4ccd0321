/- Rows of members of a program's own. -/
import Derived.Test.YtcijjigafcpcpaaGreatDoorOwn2
import Derived.Test.YtcijjigafcpcpaaGreatDoorFloat2
import Derived.Deep.AppendLies
namespace Go.Proofs.YtcijjigafcpcpaaGreatDoor
open Go.RowKit Go.Maps

section
variable {P : Program} {md : Region.Mode} {ops : Array Oper} {Q : Exit → Act → World → Prop} {C : World → Prop} {X : List Nat}
/-- two operations are ready -/
theorem wpAnyX_two {i j : Nat} {fuel : Nat} {listed : Array Bool} {a : Act} {w : World} (hr : Region.ready md ops listed = [i, j]) (h1 : wpOp P ops Q i (fun a' w' => (X.contains i = false → C w') ∧ wpAnyX P md ops C X Q fuel (listed.setIfInBounds i true) a' w') a w)
    (h2 : wpOp P ops Q j (fun a' w' => (X.contains j = false → C w') ∧ wpAnyX P md ops C X Q fuel (listed.setIfInBounds j true) a' w') a w) : wpAnyX P md ops C X Q (fuel + 1) listed a w :=
  ⟨fun h0 => absurd (hr ▸ h0) (by simp), fun k hk => by
    rw [hr, List.mem_cons, List.mem_singleton] at hk
    rcases hk with rfl | rfl
    · exact h1
    · exact h2⟩
end
def cellsM (n : Mv) : List Value := [.string (mk n.name), .int .i64 n.date, n.dv]
def flat (ns : List Mv) : List Value := ns.flatMap cellsM
theorem flat_len (ns : List Mv) : (flat ns).length = ns.length * 3 := by
  induction ns with
  | nil => rfl
  | cons n r ih =>
    have : flat (n :: r) = cellsM n ++ flat r := rfl
    rw [this, List.length_append, ih, List.length_cons]
    show 3 + _ = _
    omega
theorem flat_at : ∀ (ns : List Mv) (i r : Nat) (n : Mv), ns[i]? = some n → r < 3 → (flat ns)[i * 3 + r]? = (cellsM n)[r]?
  | [], i, r, n, h, _ => by simp at h
  | m :: s, 0, r, n, h, hr => by
    obtain rfl : m = n := by simpa using h
    have : flat (m :: s) = cellsM m ++ flat s := rfl
    rw [this, Nat.zero_mul, Nat.zero_add, List.getElem?_append_left (by show r < 3; exact hr)]
  | m :: s, i + 1, r, n, h, hr => by
    have : flat (m :: s) = cellsM m ++ flat s := rfl
    rw [this, List.getElem?_append_right (by show 3 ≤ _; omega)]
    have e : (i + 1) * 3 + r - (cellsM m).length = i * 3 + r := by show (i + 1) * 3 + r - 3 = _; omega
    rw [e]
    exact flat_at s i r n (by simpa using h) hr
/-- a row of nodes, and their bytes, in blocks from b0 on -/
structure MsAt (w : World) (b0 : Nat) (v : Value) (ns : List Mv) : Prop where
  row : (v = .slice none 0 0 ∧ ns = []) ∨ ∃ g cap cur, v = .slice (some ⟨g, 0, none⟩) ns.length cap ∧ b0 ≤ g ∧ w.heap[g]? = some (.cells cur 37 (0, 0)) ∧ ns.length ≤ cap ∧ cap * 3 ≤ cur.size ∧ cur.toList.take (ns.length * 3) = flat ns
  dat : ∀ n ∈ ns, Dat w n.dv n.data
  hi : ∀ n ∈ ns, ∀ g, n.dv.ownBlock = some g → b0 ≤ g
theorem cell_row {w : World} {g : Nat} {cur : Array Value} {T : TypeId} {ns : List Mv} (hg : w.heap[g]? = some (.cells cur T (0, 0))) (ht : cur.toList.take (ns.length * 3) = flat ns) {i r : Nat} {n : Mv} {u : Value} (hn : ns[i]? = some n) (hr : r < 3) (hu : (cellsM n)[r]? = some u) :
    w.cell? ⟨g, i * 3 + r, none⟩ = some u := by
  rw [Lib.cell_of_heap hg]
  have hil : i < ns.length := (List.getElem?_eq_some_iff.1 hn).1
  have h1 := flat_at ns i r n hn hr
  rw [← ht, List.getElem?_take_of_lt (by omega), hu] at h1
  simpa using h1
theorem MsAt.mems {w : World} {b0 : Nat} {v : Value} {ns : List Mv} (h : MsAt w b0 v ns) : Mems w v ns := by
  rcases h.row with ⟨rfl, rfl⟩ | ⟨g, cap, cur, rfl, hb, hg, hc, hs, ht⟩
  · exact .inl ⟨⟨_, _, rfl⟩, rfl⟩
  · refine .inr ⟨g, 0, cap, rfl, hc, ⟨lt_of_block hg, fun i n hi => ?_, fun i n hi => ?_, fun i n hi => ?_⟩, fun n hn => (h.dat n hn).rds⟩
    · rw [Nat.zero_add]; exact cell_row hg ht (r := 0) hi (by omega) rfl
    · rw [Nat.zero_add]; exact cell_row hg ht (r := 1) hi (by omega) rfl
    · rw [Nat.zero_add]; exact cell_row hg ht (r := 2) hi (by omega) rfl
theorem MsAt.below {w w' : World} {b0 : Nat} {v : Value} {ns : List Mv} (h : MsAt w b0 v ns) (hb : Below w.heap.size w w') : MsAt w' b0 v ns := by
  refine ⟨?_, fun n hn => (h.dat n hn).kept fun g hg => hb.block g ((h.dat n hn).lt g hg), h.hi⟩
  rcases h.row with h1 | ⟨g, cap, cur, rfl, h2, hg, r⟩
  · exact .inl h1
  · exact .inr ⟨g, cap, cur, rfl, h2, (hb.block g (lt_of_block hg)).trans hg, r⟩
theorem MsAt.mono {w : World} {b0 b1 : Nat} {v : Value} {ns : List Mv} (h : MsAt w b0 v ns) (hb : b1 ≤ b0) : MsAt w b1 v ns := by
  refine ⟨?_, h.dat, fun n hn g hg => Nat.le_trans hb (h.hi n hn g hg)⟩
  rcases h.row with h1 | ⟨g, cap, cur, rfl, h2, r⟩
  · exact .inl h1
  · exact .inr ⟨g, cap, cur, rfl, Nat.le_trans hb h2, r⟩
theorem MsAt.nil (w : World) (b0 : Nat) : MsAt w b0 (.slice none 0 0) [] := ⟨.inl ⟨rfl, rfl⟩, fun n hn => (by cases hn), fun n hn => (by cases hn)⟩

theorem info37 : (Tryz.prog.info? 37).map (fun i : TypeInfo => (i.zero, i.size, i.bytes)) = some (some (.agg #[.string ⟨#[]⟩, .int .i64 0, .slice none 0 0]), 3, 48) := by kernel_rfl

theorem dat_grown {w w' : World} {v va : Value} {bs : Bs} {base n : Nat} {xs : List Value} (hd : Dat w v bs) (ho : w.ownsRow base 37 3 va n xs) (hg : w.grownBy w' va.ownBlock) : Dat w' v bs := by
  refine hd.kept fun g hgb => hg.block g (hd.lt g hgb) fun e => ?_
  rcases ho.2 with ⟨rfl, _⟩ | ⟨g', cap, cur, rfl, _, hr, _⟩
  · cases e
  · obtain ⟨cur', hc⟩ := hd.elem g hgb
    have e1 : g = g' := Option.some.inj e
    rw [e1, hr] at hc
    simp at hc
theorem own_kept {w w' : World} {base n : Nat} {v : Value} {xs : List Value} (h : w.ownsRow base 37 3 v n xs) (hb : Below w.heap.size w w') : w'.ownsRow base 37 3 v n xs := by
  refine ⟨h.1, ?_⟩
  rcases h.2 with h1 | ⟨g, cap, cur, rfl, h2, hg, r⟩
  · exact .inl h1
  · exact .inr ⟨g, cap, cur, rfl, h2, (hb.block g (lt_of_block hg)).trans hg, r⟩
theorem news_cells (w : World) (n : Mv) : ∀ j u, (cellsM n)[j]? = some u → (w.alloc (.cells #[.string (mk n.name), .int .i64 n.date, n.dv] 37)).cell? ((⟨w.heap.size, 0, none⟩ : Addr).add j) = some u := by
  intro j u hj
  rw [add_zero, Lib.cell_of_heap (alloc_new _ _)]
  simpa [cellsM] using hj
theorem news_one (p : Bs) (t : Int) (a : Option Addr) (m c : Nat) (d : Bs) : ∀ u ∈ cellsM ⟨p, t, .slice a m c, d⟩, u.oneCell' = true := by
  intro u hu
  simp only [cellsM, List.mem_cons, List.not_mem_nil, or_false] at hu
  rcases hu with rfl | rfl | rfl <;> rfl
theorem own_lt {w : World} {base n : Nat} {va : Value} {xs : List Value} (ho : w.ownsRow base 37 3 va n xs) {b : Nat} (hb : b < base) : some b ≠ va.ownBlock := by
  intro e1
  rcases ho.2 with ⟨rfl, _⟩ | ⟨g, cap, cur, rfl, hg, _⟩
  · cases e1
  · have := Option.some.inj e1
    simp only at this
    omega
theorem flat_snoc (ms : List Mv) (m : Mv) : flat (ms ++ [m]) = flat ms ++ cellsM m := by unfold flat; rw [List.flatMap_append]; simp
theorem wp_append_dat {v x : Value} {xs ys : Bs} (w : World) {o : Oper} {a : Act} {K : Act → World → Prop} {Q : Exit → Act → World → Prop} (s y : Operand)
    (ho : o.op = .call { callee := .builtin .append, args := #[s, y], argTypes := #[26, 26] }) (hs : a.eval s = v) (hy : a.eval y = x)
    (hv : Dat w v xs) (hx : Rds w x ys) (hsz : xs.length + ys.length ≤ 1099511627776)
    (h : ∀ v' w', Dat w' v' (xs ++ ys) → Dat w' v xs → w.grownBy w' v.ownBlock → (v'.ownBlock = v.ownBlock ∨ v'.ownBlock = some w.heap.size) → K (a.put o.dst v') w') :
    o.wp Tryz.prog a w K Q := by
  obtain ⟨v', w', hr, h2, h3, h4, h5⟩ := append_dat o.type w hv hx hsz
  unfold Oper.wp execOp
  simp only [ho, resolve, invoke, builtin, Sem.run_bind, Sem.run_pure, Result.andThen_ok, List.map_toArray, List.map_cons, List.map_nil, hs, hy, hr]
  exact h v' w' h2 h3 h4 h5
theorem one_rds (w : World) : Rds (w.alloc (.cells #[.int .u8 167] 5)) (.slice (some ⟨w.heap.size, 0, none⟩) 1 1) [167] := by
  refine .inr ⟨⟨w.heap.size, 0, none⟩, 1, rfl, fun _ => lt_of_block (alloc_new _ _), fun j u hj => ?_⟩
  rw [add_zero]
  rcases j with _ | j
  · cases hj; rw [Lib.cell_of_heap (alloc_new _ _)]; rfl
  · simp [Lib.byteCells] at hj
def toE (m : Mv) : Bs × Int × Bs := (m.name, m.date, m.data)
theorem toE_iff (a b : Mv) : toE a = toE b ↔ a.name = b.name ∧ a.date = b.date ∧ a.data = b.data := by
  unfold toE
  obtain ⟨p, t, dv, x⟩ := a
  obtain ⟨p', t', dv', x'⟩ := b
  simp only [Prod.mk.injEq]
theorem map_ne {ns ms : List Mv} {k : Nat} {n m : Mv} (hn : ns[k]? = some n) (hm : ms[k]? = some m) (h : ¬ toE n = toE m) : ¬ ns.map toE = ms.map toE := by
  intro e
  have := congrArg (·[k]?) e
  simp only [List.getElem?_map, hn, hm, Option.map_some, Option.some.injEq] at this
  exact h this
theorem map_step {ns ms : List Mv} {k : Nat} {n m : Mv} (hn : ns[k]? = some n) (hm : ms[k]? = some m) (h : (ns.take k).map toE = (ms.take k).map toE) (e : toE n = toE m) : (ns.take (k + 1)).map toE = (ms.take (k + 1)).map toE := by
  rw [List.take_add_one, List.take_add_one, List.map_append, List.map_append, h, hn, hm]
  simp [e]
end Go.Proofs.YtcijjigafcpcpaaGreatDoor
