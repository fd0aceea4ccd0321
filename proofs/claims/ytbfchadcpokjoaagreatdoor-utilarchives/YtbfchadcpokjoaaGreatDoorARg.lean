/- Rows of members of a program's own. The contract of anvillaw7.big. Rows of bytes that are written over; what depends on members' names, dates and bytes alone. The contract of ar.Put. What an archive's bytes are scanned to: plain. -/
import Derived.Test.YtbfchadcpokjoaaGreatDoorARf
import Derived.Test.YtbfchadcpokjoaaGreatDoorARe
import Derived.Deep.AppendLies
import Derived.Deep.QuietTactic
import Derived.BigQuiet
import Derived.Deep.Cut
import Derived.Test.YtbfchadcpokjoaaGreatDoorARd
namespace Go.Proofs.YtbfchadcpokjoaaGreatDoor.Arc
open Go.RowKit Go.Maps
set_option maxRecDepth 100000

section
variable {P : Program} {md : Region.Mode} {ops : Array Oper} {Q : Exit → Act → World → Prop} {C : World → Prop} {X : List Nat}
/-- two operations are ready -/
theorem wpAnyX_two {i j : Nat} {fuel : Nat} {listed : Array Bool} {a : Act} {w : World} (hr : Region.ready md ops listed = [i, j]) (h1 : wpOp P ops Q i (fun a' w' => (X.contains i = false → C w') ∧ wpAnyX P md ops C X Q fuel (listed.setIfInBounds i true) a' w') a w)
    (h2 : wpOp P ops Q j (fun a' w' => (X.contains j = false → C w') ∧ wpAnyX P md ops C X Q fuel (listed.setIfInBounds j true) a' w') a w) : wpAnyX P md ops C X Q (fuel + 1) listed a w :=
  ⟨fun h0 => absurd (hr ▸ h0) (by simp), fun k hk => by
    rw [hr, List.mem_cons, List.mem_singleton] at hk
    rcases hk with rfl | rfl
    · exact h1
    · exact h2⟩
end
def cellsM (n : Mv) : List Value := [.string (mk n.name), .int .i64 n.date, n.dv]
def flat (ns : List Mv) : List Value := ns.flatMap cellsM
theorem flat_len (ns : List Mv) : (flat ns).length = ns.length * 3 := by
  induction ns with
  | nil => rfl
  | cons n r ih =>
    have : flat (n :: r) = cellsM n ++ flat r := rfl
    rw [this, List.length_append, ih, List.length_cons]
    show 3 + _ = _
    omega
theorem flat_at : ∀ (ns : List Mv) (i r : Nat) (n : Mv), ns[i]? = some n → r < 3 → (flat ns)[i * 3 + r]? = (cellsM n)[r]?
  | [], i, r, n, h, _ => by simp at h
  | m :: s, 0, r, n, h, hr => by
    obtain rfl : m = n := by simpa using h
    have : flat (m :: s) = cellsM m ++ flat s := rfl
    rw [this, Nat.zero_mul, Nat.zero_add, List.getElem?_append_left (by show r < 3; exact hr)]
  | m :: s, i + 1, r, n, h, hr => by
    have : flat (m :: s) = cellsM m ++ flat s := rfl
    rw [this, List.getElem?_append_right (by show 3 ≤ _; omega)]
    have e : (i + 1) * 3 + r - (cellsM m).length = i * 3 + r := by show (i + 1) * 3 + r - 3 = _; omega
    rw [e]
    exact flat_at s i r n (by simpa using h) hr
/-- a row of nodes, and their bytes, in blocks from b0 on -/
structure MsAt (w : World) (b0 : Nat) (v : Value) (ns : List Mv) : Prop where
  row : (v = .slice none 0 0 ∧ ns = []) ∨ ∃ g cap cur, v = .slice (some ⟨g, 0, none⟩) ns.length cap ∧ b0 ≤ g ∧ w.heap[g]? = some (.cells cur 185 (0, 0)) ∧ ns.length ≤ cap ∧ cap * 3 ≤ cur.size ∧ cur.toList.take (ns.length * 3) = flat ns
  dat : ∀ n ∈ ns, Dat w n.dv n.data
  hi : ∀ n ∈ ns, ∀ g, n.dv.ownBlock = some g → b0 ≤ g
theorem cell_row {w : World} {g : Nat} {cur : Array Value} {T : TypeId} {ns : List Mv} (hg : w.heap[g]? = some (.cells cur T (0, 0))) (ht : cur.toList.take (ns.length * 3) = flat ns) {i r : Nat} {n : Mv} {u : Value} (hn : ns[i]? = some n) (hr : r < 3) (hu : (cellsM n)[r]? = some u) :
    w.cell? ⟨g, i * 3 + r, none⟩ = some u := by
  rw [Lib.cell_of_heap hg]
  have hil : i < ns.length := (List.getElem?_eq_some_iff.1 hn).1
  have h1 := flat_at ns i r n hn hr
  rw [← ht, List.getElem?_take_of_lt (by omega), hu] at h1
  simpa using h1
theorem MsAt.mems {w : World} {b0 : Nat} {v : Value} {ns : List Mv} (h : MsAt w b0 v ns) : Mems w v ns := by
  rcases h.row with ⟨rfl, rfl⟩ | ⟨g, cap, cur, rfl, hb, hg, hc, hs, ht⟩
  · exact .inl ⟨⟨_, _, rfl⟩, rfl⟩
  · refine .inr ⟨g, 0, cap, rfl, hc, ⟨lt_of_block hg, fun i n hi => ?_, fun i n hi => ?_, fun i n hi => ?_⟩, fun n hn => (h.dat n hn).rds⟩
    · rw [Nat.zero_add]; exact cell_row hg ht (r := 0) hi (by omega) rfl
    · rw [Nat.zero_add]; exact cell_row hg ht (r := 1) hi (by omega) rfl
    · rw [Nat.zero_add]; exact cell_row hg ht (r := 2) hi (by omega) rfl
theorem MsAt.below {w w' : World} {b0 : Nat} {v : Value} {ns : List Mv} (h : MsAt w b0 v ns) (hb : Below w.heap.size w w') : MsAt w' b0 v ns := by
  refine ⟨?_, fun n hn => (h.dat n hn).kept fun g hg => hb.block g ((h.dat n hn).lt g hg), h.hi⟩
  rcases h.row with h1 | ⟨g, cap, cur, rfl, h2, hg, r⟩
  · exact .inl h1
  · exact .inr ⟨g, cap, cur, rfl, h2, (hb.block g (lt_of_block hg)).trans hg, r⟩
theorem MsAt.mono {w : World} {b0 b1 : Nat} {v : Value} {ns : List Mv} (h : MsAt w b0 v ns) (hb : b1 ≤ b0) : MsAt w b1 v ns := by
  refine ⟨?_, h.dat, fun n hn g hg => Nat.le_trans hb (h.hi n hn g hg)⟩
  rcases h.row with h1 | ⟨g, cap, cur, rfl, h2, r⟩
  · exact .inl h1
  · exact .inr ⟨g, cap, cur, rfl, Nat.le_trans hb h2, r⟩
theorem MsAt.nil (w : World) (b0 : Nat) : MsAt w b0 (.slice none 0 0) [] := ⟨.inl ⟨rfl, rfl⟩, fun n hn => (by cases hn), fun n hn => (by cases hn)⟩

theorem info37 : (Tryz.prog.info? 185).map (fun i : TypeInfo => (i.zero, i.size, i.bytes)) = some (some (.agg #[.string ⟨#[]⟩, .int .i64 0, .slice none 0 0]), 3, 48) := by kernel_rfl

theorem dat_grown {w w' : World} {v va : Value} {bs : Bs} {base n : Nat} {xs : List Value} (hd : Dat w v bs) (ho : w.ownsRow base 185 3 va n xs) (hg : w.grownBy w' va.ownBlock) : Dat w' v bs := by
  refine hd.kept fun g hgb => hg.block g (hd.lt g hgb) fun e => ?_
  rcases ho.2 with ⟨rfl, _⟩ | ⟨g', cap, cur, rfl, _, hr, _⟩
  · cases e
  · obtain ⟨cur', hc⟩ := hd.elem g hgb
    have e1 : g = g' := Option.some.inj e
    rw [e1, hr] at hc
    simp at hc
theorem own_kept {w w' : World} {base n : Nat} {v : Value} {xs : List Value} (h : w.ownsRow base 185 3 v n xs) (hb : Below w.heap.size w w') : w'.ownsRow base 185 3 v n xs := by
  refine ⟨h.1, ?_⟩
  rcases h.2 with h1 | ⟨g, cap, cur, rfl, h2, hg, r⟩
  · exact .inl h1
  · exact .inr ⟨g, cap, cur, rfl, h2, (hb.block g (lt_of_block hg)).trans hg, r⟩
theorem news_cells (w : World) (n : Mv) : ∀ j u, (cellsM n)[j]? = some u → (w.alloc (.cells #[.string (mk n.name), .int .i64 n.date, n.dv] 185)).cell? ((⟨w.heap.size, 0, none⟩ : Addr).add j) = some u := by
  intro j u hj
  rw [add_zero, Lib.cell_of_heap (alloc_new _ _)]
  simpa [cellsM] using hj
theorem news_one (p : Bs) (t : Int) (a : Option Addr) (m c : Nat) (d : Bs) : ∀ u ∈ cellsM ⟨p, t, .slice a m c, d⟩, u.oneCell' = true := by
  intro u hu
  simp only [cellsM, List.mem_cons, List.not_mem_nil, or_false] at hu
  rcases hu with rfl | rfl | rfl <;> rfl
theorem own_lt {w : World} {base n : Nat} {va : Value} {xs : List Value} (ho : w.ownsRow base 185 3 va n xs) {b : Nat} (hb : b < base) : some b ≠ va.ownBlock := by
  intro e1
  rcases ho.2 with ⟨rfl, _⟩ | ⟨g, cap, cur, rfl, hg, _⟩
  · cases e1
  · have := Option.some.inj e1
    simp only at this
    omega
theorem flat_snoc (ms : List Mv) (m : Mv) : flat (ms ++ [m]) = flat ms ++ cellsM m := by unfold flat; rw [List.flatMap_append]; simp
theorem wp_append_dat {v x : Value} {xs ys : Bs} (w : World) {o : Oper} {a : Act} {K : Act → World → Prop} {Q : Exit → Act → World → Prop} (s y : Operand)
    (ho : o.op = .call { callee := .builtin .append, args := #[s, y], argTypes := #[33, 33] }) (hs : a.eval s = v) (hy : a.eval y = x)
    (hv : Dat w v xs) (hx : Rds w x ys) (hsz : xs.length + ys.length ≤ 1099511627776)
    (h : ∀ v' w', Dat w' v' (xs ++ ys) → Dat w' v xs → w.grownBy w' v.ownBlock → (v'.ownBlock = v.ownBlock ∨ v'.ownBlock = some w.heap.size) → K (a.put o.dst v') w') :
    o.wp Tryz.prog a w K Q := by
  obtain ⟨v', w', hr, h2, h3, h4, h5⟩ := append_dat o.type w hv hx hsz
  unfold Oper.wp execOp
  simp only [ho, resolve, invoke, builtin, Sem.run_bind, Sem.run_pure, Result.andThen_ok, List.map_toArray, List.map_cons, List.map_nil, hs, hy, hr]
  exact h v' w' h2 h3 h4 h5
theorem one_rds (w : World) : Rds (w.alloc (.cells #[.int .u8 167] 5)) (.slice (some ⟨w.heap.size, 0, none⟩) 1 1) [167] := by
  refine .inr ⟨⟨w.heap.size, 0, none⟩, 1, rfl, fun _ => lt_of_block (alloc_new _ _), fun j u hj => ?_⟩
  rw [add_zero]
  rcases j with _ | j
  · cases hj; rw [Lib.cell_of_heap (alloc_new _ _)]; rfl
  · simp [Lib.byteCells] at hj
def toE (m : Mv) : Bs × Int × Bs := (m.name, m.date, m.data)
theorem toE_iff (a b : Mv) : toE a = toE b ↔ a.name = b.name ∧ a.date = b.date ∧ a.data = b.data := by
  unfold toE
  obtain ⟨p, t, dv, x⟩ := a
  obtain ⟨p', t', dv', x'⟩ := b
  simp only [Prod.mk.injEq]
theorem map_ne {ns ms : List Mv} {k : Nat} {n m : Mv} (hn : ns[k]? = some n) (hm : ms[k]? = some m) (h : ¬ toE n = toE m) : ¬ ns.map toE = ms.map toE := by
  intro e
  have := congrArg (·[k]?) e
  simp only [List.getElem?_map, hn, hm, Option.map_some, Option.some.injEq] at this
  exact h this
theorem map_step {ns ms : List Mv} {k : Nat} {n m : Mv} (hn : ns[k]? = some n) (hm : ms[k]? = some m) (h : (ns.take k).map toE = (ms.take k).map toE) (e : toE n = toE m) : (ns.take (k + 1)).map toE = (ms.take (k + 1)).map toE := by
  rw [List.take_add_one, List.take_add_one, List.map_append, List.map_append, h, hn, hm]
  simp [e]
end Go.Proofs.YtbfchadcpokjoaaGreatDoor.Arc
namespace Go.Proofs.YtbfchadcpokjoaaGreatDoor.Arc
open Go.RowKit Go.Maps
set_option maxRecDepth 100000

def wtB (m : Mv) : Nat := 1 + m.data.length + m.name.length
def BgR (ms : List Mv) (r : Ending) : Prop := ∃ b, r = .returned (.bool b) ∧ (b = false → sumM wtB ms ≤ 100000)
end Go.Proofs.YtbfchadcpokjoaaGreatDoor.Arc
namespace Go.Proofs.YtbfchadcpokjoaaGreatDoor.Arc
open Go.RowKit Go.Maps
set_option maxRecDepth 100000

/-- a slice of bytes in a row from S on, whatever bytes they are -/
def DatB (w : World) (S : Nat → Prop) (v : Value) : Prop :=
  v = .slice none 0 0 ∨ ∃ g n cap cur, v = .slice (some ⟨g, 0, none⟩) n cap ∧ S g ∧ w.heap[g]? = some (.cells cur 5 (0, 0)) ∧ n ≤ 1000000 ∧ ∀ j, j < n → ∃ x : UInt8, cur[j]? = some (.int .u8 (x.toNat : Nat))
theorem Dat.datB {w : World} {v : Value} {bs : Bs} {S : Nat → Prop} (h : Dat w v bs) (hg : ∀ g, v.ownBlock = some g → S g) (hl : bs.length ≤ 1000000) : DatB w S v := by
  rcases h with ⟨rfl, _⟩ | ⟨g, cap, cur, rfl, h1, h2, h3, h4, h5⟩
  · exact .inl rfl
  · refine .inr ⟨g, _, cap, cur, rfl, hg g rfl, h1, hl, fun j hj => ⟨bs[j], ?_⟩⟩
    have e : (Lib.byteCells bs)[j]? = some (.int .u8 (bs[j].toNat : Nat)) := by
      unfold Lib.byteCells
      rw [List.getElem?_map, List.getElem?_eq_getElem hj]
      rfl
    rw [← h5, List.getElem?_take_of_lt hj] at e
    simpa using e
theorem DatB.len {w : World} {S : Nat → Prop} {v : Value} (h : DatB w S v) : ∃ a n cap, v = .slice a n cap ∧ n ≤ 1000000 := by
  rcases h with rfl | ⟨g, n, cap, cur, rfl, _, _, h, _⟩
  · exact ⟨_, _, _, rfl, by omega⟩
  · exact ⟨_, _, _, rfl, h⟩
theorem DatB.kept {w w' : World} {S : Nat → Prop} {v : Value} (h : DatB w S v) (hk : ∀ (g : Nat) (cur : Array Value), w.heap[g]? = some (Obj.cells cur 5 (0, 0)) → w'.heap[g]? = w.heap[g]?) : DatB w' S v := by
  rcases h with h | ⟨g, n, cap, cur, rfl, h1, h2, r⟩
  · exact .inl h
  · exact .inr ⟨g, n, cap, cur, rfl, h1, (hk g cur h2).trans h2, r⟩
/-- a byte that is written into a row leaves rows of bytes -/
theorem DatB.set {w : World} {S : Nat → Prop} {v : Value} (h : DatB w S v) {g k : Nat} {x : UInt8} : DatB (w.setCell ⟨g, k, none⟩ (.int .u8 (x.toNat : Nat))) S v := by
  rcases h with h | ⟨g', n, cap, cur, rfl, h1, h2, h3, h4⟩
  · exact .inl h
  · by_cases e : g' = g
    · subst e
      refine .inr ⟨g', n, cap, _, rfl, h1, set_row h2 k _, h3, fun j hj => ?_⟩
      by_cases e2 : k = j
      · subst e2
        refine ⟨x, ?_⟩
        obtain ⟨y, hy⟩ := h4 k hj
        have : k < cur.size := (Array.getElem?_eq_some_iff.1 hy).1
        simp [this]
      · obtain ⟨y, hy⟩ := h4 j hj
        exact ⟨y, by rw [Array.getElem?_setIfInBounds_ne e2]; exact hy⟩
    · exact .inr ⟨g', n, cap, cur, rfl, h1, (Below.heap_setCell w ⟨g, k, none⟩ _ g' (by simpa using e)).trans h2, h3, h4⟩
theorem Turn.set {S : Nat → Prop} {w w' : World} (h : Turn S w w') {g : Nat} (hg : S g) (c : Nat) (v : Value) : Turn S w (w'.setCell ⟨g, c, none⟩ v) :=
  ⟨h.os, h.tape, h.output, Nat.le_trans h.size (Nat.le_of_eq (by simp)), fun k hk hn => (Below.heap_setCell w' ⟨g, c, none⟩ v k (fun e => hn (by simpa using e ▸ hg))).trans (h.block k hk hn)⟩
theorem xor_byte (x : UInt8) : ∃ y : UInt8, bits BinOp.xor IntKind.u8 (x.toNat : Int) 255 = (y.toNat : Nat) := by
  refine ⟨x ^^^ 255, ?_⟩
  have key : ∀ n : Fin 256, bits BinOp.xor IntKind.u8 (n.val : Int) 255 = ((n.val ^^^ 255 : Nat) : Int) := by set_option maxRecDepth 100000 in decide
  rw [UInt8.toNat_xor]
  exact key ⟨x.toNat, UInt8.toNat_lt x⟩
theorem sumM_map {f : Mv → Nat} (hf : ∀ a b, toE a = toE b → f a = f b) : ∀ {ms ns : List Mv}, ms.map toE = ns.map toE → sumM f ms = sumM f ns
  | [], [], _ => rfl
  | [], _ :: _, h => by simp at h
  | _ :: _, [], h => by simp at h
  | a :: ms, b :: ns, h => by
    simp only [List.map_cons, List.cons.injEq] at h
    simp only [sumM]
    rw [hf a b h.1, sumM_map hf h.2]
theorem wtT_map {a b : Mv} (h : toE a = toE b) : wtT a = wtT b := by rw [toE_iff] at h; unfold wtT; rw [h.1]
theorem wtD_map {a b : Mv} (h : toE a = toE b) : wtD a = wtD b := by rw [toE_iff] at h; unfold wtD; rw [h.2.2]
theorem wtB_map {a b : Mv} (h : toE a = toE b) : wtB a = wtB b := by rw [toE_iff] at h; unfold wtB; rw [h.1, h.2.2]
theorem ok_map {a b : Mv} (h : toE a = toE b) : okM a = okM b := by rw [toE_iff] at h; unfold okM; rw [h.1, h.2.1]
theorem memB_map (p : Nat) {a b : Mv} (h : toE a = toE b) : memB p a = memB p b := by rw [toE_iff] at h; unfold memB; rw [h.1, h.2.1, h.2.2]
theorem tbl_map : ∀ {ms ns : List Mv}, ms.map toE = ns.map toE → tbl ms = tbl ns
  | [], [], _ => rfl
  | [], _ :: _, h => by simp at h
  | _ :: _, [], h => by simp at h
  | a :: ms, b :: ns, h => by
    simp only [List.map_cons, List.cons.injEq] at h
    have h1 := (toE_iff a b).1 h.1
    simp only [tbl]
    rw [h1.1, tbl_map h.2]
theorem bodyB_map : ∀ (p : Nat) {ms ns : List Mv}, ms.map toE = ns.map toE → bodyB p ms = bodyB p ns
  | _, [], [], _ => rfl
  | _, [], _ :: _, h => by simp at h
  | _, _ :: _, [], h => by simp at h
  | p, a :: ms, b :: ns, h => by
    simp only [List.map_cons, List.cons.injEq] at h
    simp only [bodyB]
    rw [memB_map p h.1, wtT_map h.1, bodyB_map _ h.2]
theorem all_map : ∀ {ms ns : List Mv}, ms.map toE = ns.map toE → ms.all okM = ns.all okM
  | [], [], _ => rfl
  | [], _ :: _, h => by simp at h
  | _ :: _, [], h => by simp at h
  | a :: ms, b :: ns, h => by
    simp only [List.map_cons, List.cons.injEq] at h
    simp only [List.all_cons]
    rw [ok_map h.1, all_map h.2]
theorem arch_map {ms ns : List Mv} (h : ms.map toE = ns.map toE) : archB ms = archB ns := by
  unfold archB tableB
  rw [tbl_map h, bodyB_map 0 h]
theorem wrong_map {ms ns : List Mv} (h : ms.map toE = ns.map toE) : wrongR ms = wrongR ns := by
  have hl : ms.length = ns.length := by simpa using congrArg List.length h
  unfold wrongR lenA
  rw [sumM_map (fun _ _ => wtD_map) h, sumM_map (fun _ _ => wtT_map) h, all_map h, hl]
theorem fine_of {ms : List Mv} (h : sumM wtB ms ≤ 100000) : Fine ms := by
  have h0 : ∀ l : List Mv, l.length ≤ sumM wtB l ∧ sumM wtD l ≤ 60 * l.length + sumM wtB l ∧ sumM wtT l ≤ l.length + sumM wtB l := by
    intro l
    induction l with
    | nil => simp [sumM]
    | cons m r ih =>
      have h1 : wtD m ≤ 60 + wtB m := by unfold wtD wtB evn; omega
      have h2 : wtT m ≤ 1 + wtB m := by unfold wtT wtB; split <;> omega
      have h3 : 1 ≤ wtB m := by unfold wtB; omega
      simp only [sumM, List.length_cons]
      omega
  obtain ⟨h1, h2, h3⟩ := h0 ms
  refine ⟨by omega, ?_, fun m hm => ?_⟩
  · unfold lenA evn
    split <;> omega
  · have h4 := sumM_mem wtB hm
    have h5 : wtB m = 1 + m.data.length + m.name.length := rfl
    omega
end Go.Proofs.YtbfchadcpokjoaaGreatDoor.Arc
namespace Go.Proofs.YtbfchadcpokjoaaGreatDoor.Arc
open Go.RowKit Go.Maps
set_option maxRecDepth 100000

/-- the member m in the place p, if that is one -/
def putS (ns : List Mv) (p : Int) (m : Mv) : List Mv := if p < 0 then ns else ns.set p.toNat m
def putM (ns : List Mv) (m : Mv) : List Mv := match findN ns m.name with | some k => ns.set k m | none => ns ++ [m]
theorem putS_len (ns : List Mv) (p : Int) (m : Mv) : (putS ns p m).length = ns.length := by unfold putS; split <;> simp
theorem putS_at {ns : List Mv} {p : Int} {m : Mv} {k : Nat} (hk : k < ns.length) (e : (k : Int) = p) : (putS ns p m)[k]? = some m := by
  unfold putS
  rw [if_neg (by omega), ← e, Int.toNat_natCast, List.getElem?_set_self hk]
theorem putS_ne {ns : List Mv} {p : Int} {m : Mv} {k : Nat} (e : ¬ (k : Int) = p) : (putS ns p m)[k]? = ns[k]? := by
  unfold putS
  split
  · rfl
  · rw [List.getElem?_set_ne (by omega)]
theorem putM_eq (ns : List Mv) (m : Mv) : putM ns m = if placeR ns m.name < 0 then putS ns (placeR ns m.name) m ++ [m] else putS ns (placeR ns m.name) m := by
  unfold putM placeR putS
  cases findN ns m.name with
  | none => simp
  | some k =>
    show ns.set k m = if ((k : Nat) : Int) < 0 then _ else (if ((k : Nat) : Int) < 0 then ns else ns.set ((k : Nat) : Int).toNat m)
    rw [if_neg (by omega), if_neg (by omega), Int.toNat_natCast]
/-- an answer: members in memory of their own -/
def MsR (B : Nat) (es : List (Bs × Int × Bs)) (w : World) (r : Ending) : Prop := ∃ v ms, r = .returned v ∧ MsAt w B v ms ∧ ms.map toE = es
/-- rows in building -/
structure Bld (w : World) (B : Nat) (l : Value) (ms : List Mv) : Prop where
  own : w.ownsRow B 185 3 l ms.length (flat ms)
  dat : ∀ m ∈ ms, Dat w m.dv m.data
  hi : ∀ m ∈ ms, OwnB B m.dv
theorem Bld.nil (w : World) (B : Nat) : Bld w B (.slice none 0 0) [] := ⟨World.ownsRow_nil _ _ _ _, fun n hn => (by cases hn), fun n hn => (by cases hn)⟩
theorem Bld.below {w w' : World} {B : Nat} {l : Value} {ms : List Mv} (h : Bld w B l ms) (hb : Below w.heap.size w w') : Bld w' B l ms :=
  ⟨own_kept h.own hb, fun m hm => (h.dat m hm).kept fun g hg => hb.block g ((h.dat m hm).lt g hg), h.hi⟩
theorem Bld.form {w : World} {B : Nat} {l : Value} {ms : List Mv} (h : Bld w B l ms) : ∃ a c, l = .slice a ms.length c := by
  rcases h.own.2 with ⟨e, e2⟩ | ⟨g1, c1, cur1, e, _⟩
  · exact ⟨none, 0, by rw [e, e2]⟩
  · exact ⟨_, _, e⟩
theorem Bld.msAt {w : World} {B : Nat} {l : Value} {ms : List Mv} (h : Bld w B l ms) : MsAt w B l ms := by
  refine ⟨?_, h.dat, fun m hm g hg => h.hi m hm g hg⟩
  rcases h.own.2 with ⟨e, e2⟩ | ⟨g, cap, cur, e, hbg, hg, r1, r2, r3, r4⟩
  · exact .inl ⟨e, List.length_eq_zero_iff.1 e2⟩
  · exact .inr ⟨g, cap, cur, e, hbg, hg, r1, by omega, r4⟩
/-- one more behind -/
theorem Bld.step {w w' : World} {B : Nat} {l l' : Value} {ms : List Mv} {x : Mv} (h : Bld w B l ms) (hd : Dat w x.dv x.data) (hx : OwnB B x.dv) (hg : w.grownBy w' l.ownBlock) (ho : w'.ownsRow B 185 3 l' (ms.length + 1) (flat ms ++ cellsM x)) : Bld w' B l' (ms ++ [x]) := by
  refine ⟨by rw [flat_snoc, List.length_append]; exact ho, fun m hm => ?_, fun m hm => ?_⟩
  · rcases List.mem_append.1 hm with hm | hm
    · exact dat_grown (h.dat m hm) h.own hg
    · rw [List.mem_singleton.1 hm]; exact dat_grown hd h.own hg
  · rcases List.mem_append.1 hm with hm | hm
    · exact h.hi m hm
    · rw [List.mem_singleton.1 hm]; exact hx
theorem Bld.grown {w w' : World} {B C : Nat} {w0 : World} {l : Value} {ms : List Mv} (h : Bld w B l ms) (hg : w.grownBy w' l.ownBlock) (hb : Below C w0 w) (hC : C ≤ B) (hC' : C ≤ w.heap.size) : Below C w0 w' :=
  hb.trans ⟨hg.os, hg.tape, hg.output, hg.size, fun b hb => hg.block b (by omega) (own_lt h.own (by omega))⟩
set_option maxRecDepth 100000 in
set_option maxHeartbeats 8000000 in
theorem put_any' (sa : Option Addr) (cap : Nat) (ns : List Mv) (p : Bs) (t : Int) (da : Option Addr) (dc : Nat) (x : Bs) (w : World) (hme : Mems w (.slice sa ns.length cap) ns) (hsa : ns ≠ [] → ∃ g o, sa = some ⟨g, o, none⟩ ∧ MRow w g o ns) (hr : ∀ n ∈ ns, Rds w n.dv n.data) (hx : Rds w (.slice da x.length dc) x) (hl : ns.length ≤ 100000) (hds : ∀ n ∈ ns, n.name.length ≤ 300000 ∧ n.data.length ≤ 300000) (hpl : p.length ≤ 300000) (hxl : x.length ≤ 300000) :
    Calls Tryz.prog 128 #[.slice sa ns.length cap, .agg #[.string (mk p), .int .i64 t, .slice da x.length dc]] w fun r w' => MsR w.heap.size ((putM ns ⟨p, t, .slice da x.length dc, x⟩).map toE) w' r ∧ Below w.heap.size w w' := by
  have hb0 : Below w.heap.size w (w.alloc (.cells #[.string (mk p), .int .i64 t, .slice da x.length dc] 185)) := (Below.refl _ _).alloc (Nat.le_refl _) _
  have z0 := alloc_new w (.cells #[.string (mk p), .int .i64 t, .slice da x.length dc] 185)
  have q0 := Find_any _ ns p _ (hme.below hb0) (by omega)
  go_enter Tryz.func128, Tryz.ntmps128
  go_wp2_with fail
  obtain ⟨w0, hw0⟩ : ∃ w0, w0 = w.alloc (.cells #[.string (mk p), .int .i64 t, .slice da x.length dc] 185) := ⟨_, rfl⟩
  rw [← hw0] at hb0 z0 q0 ⊢
  have hs0 : w0.heap.size = w.heap.size + 1 := by rw [hw0]; simp
  clear hw0
  refine q0.mono ?_
  rintro r w1 ⟨rfl, hb1⟩
  have hs1 := hb1.size
  have hB1 := hb0.trans (hb1.mono hb0.size)
  have z1 := (hb1.block _ (by omega)).trans z0
  clear q0 hme
  obtain ⟨at', hat'⟩ : ∃ at', at' = placeR ns p := ⟨_, rfl⟩
  rw [← hat']
  have HA := hide' hat'
  clear hat'
  go_wp2_with fail
  go_loopw [5, 7, 8, 15] (fun l _ _ i wr => ∃ (k : Nat) (ms : List Mv), k ≤ ns.length ∧ i = .int .i64 k ∧ Bld wr w1.heap.size l ms ∧ ms.length = k ∧ ms.map toE = ((putS ns at' ⟨p, t, .slice da x.length dc, x⟩).take k).map toE ∧ Below w1.heap.size w1 wr) (fun _ _ _ i _ => ns.length - (intOf i).toNat)
  case atStart => exact ⟨0, [], Nat.zero_le _, rfl, Bld.nil _ _, rfl, rfl, Below.refl _ _⟩
  case round =>
    obtain ⟨k, ms, hk, rfl, hbl, hmk, hme, hBe⟩ := hrel
    have hBw : Below w.heap.size w wr := hB1.trans (hBe.mono hB1.size)
    have y1 := (hBe.block _ (by omega)).trans z1
    have hsr := hBe.size
    obtain ⟨la, lc, hlv⟩ := hbl.form
    subst hlv
    have hml : ms.length ≤ 100000 := by omega
    have HM := hide' hmk
    clear hmk
    by_cases hkl : k < ns.length
    · have k1 : (k : Int) < ns.length := by omega
      obtain ⟨n, hn⟩ : ∃ n, ns[k]? = some n := ⟨_, List.getElem?_eq_getElem hkl⟩
      have hmem := List.mem_of_getElem? hn
      obtain ⟨g, o, hse, h⟩ := hsa (fun e => by rw [e] at hkl; simp at hkl)
      subst hse
      have hR := h.below hBw
      have d0 := hR.c0 k n hn
      have d1 := hR.c1 k n hn
      have d2 := hR.c2 k n hn
      have hrd := (hr n hmem).below hBw
      obtain ⟨ea, ec, hdv⟩ := hrd.len
      rw [hdv] at d2 hrd
      obtain ⟨l1, l2⟩ := hds n hmem
      by_cases hp : (k : Int) = at'
      · have hset := putS_at (m := ⟨p, t, .slice da x.length dc, x⟩) hkl hp
        have hq : ((k : Int) == at') = true := beq_iff_eq.2 hp
        have m0 : wr.cell? ⟨w.heap.size, 0, none⟩ = some (.string (mk p)) := by rw [Lib.cell_of_heap y1]; rfl
        have m1 : wr.cell? ⟨w.heap.size, 1, none⟩ = some (.int .i64 t) := by rw [Lib.cell_of_heap y1]; rfl
        have m2 : wr.cell? ⟨w.heap.size, 2, none⟩ = some (.slice da x.length dc) := by rw [Lib.cell_of_heap y1]; rfl
        have m0' := fun o => cell_old (W := wr) o m0
        have m1' := fun o => cell_old (W := wr) o m1
        have m2' := fun o => cell_old (W := wr) o m2
        clear hp
        go_wp2_with fail
        have hbx : Below wr.heap.size wr (wr.alloc (.cells #[.string (mk p), .int .i64 t, .slice da x.length dc] 185)) := (Below.refl _ _).alloc (Nat.le_refl _) _
        refine (own_any ⟨p, t, .slice da x.length dc, x⟩ _ ((hx.below hBw).below hbx) (show List.length p ≤ _ by omega) (show List.length x ≤ _ by omega)).mono ?_
        rintro r w8 ⟨⟨v8, rfl, hd8, ho8⟩, hb8⟩
        obtain ⟨a8, n8, c8, hv8⟩ := hd8.form
        subst hv8
        dsimp only at hd8 ho8 ⊢
        have hB8 : Below wr.heap.size wr w8 := hbx.trans (hb8.mono hbx.size)
        have hb9 : Below w8.heap.size w8 (w8.alloc (.cells #[.string (mk p), .int .i64 t, .slice a8 n8 c8] 185)) := (Below.refl _ _).alloc (Nat.le_refl _) _
        have hbl9 := (hbl.below hB8).below hb9
        have hown9 := hbl9.own
        have hs8 := hB8.size
        have hsx := hbx.size
        have hwz : w1.heap.size ≤ (w8.alloc (.cells #[.string (mk p), .int .i64 t, .slice a8 n8 c8] 185)).heap.size := by rw [size_alloc']; omega
        have hB9 := hB8.trans (hb9.mono hB8.size)
        have HK := hide' (And.intro hd8 (And.intro ho8 (And.intro hB9 (And.intro hb9 (And.intro hbl9 (And.intro hBe (And.intro hme hset)))))))
        clear hd8 ho8 hB9 hb9 hbl9 hBe hme hset hb8 hbx hB8 hbl y1 hBw z1 z0 hsa hr hds hx hB1 hb1 hb0
        obtain ⟨inf, hi, hz0, hz1, hz2⟩ := info_parts info37
        go_wp2_with (at_builtin; refine wpList_append_lies _ rfl _ _ 180 rfl w1.heap.size 185 inf _ 3 48 Tryz.underlying180 hi hz0 hz1 hz2 rfl (by decide) (.slice la ms.length lc) ms.length (flat ms) rfl hown9 ⟨w8.heap.size, 0, none⟩ 1 1 (cellsM ⟨p, t, .slice a8 n8 c8, x⟩) rfl rfl (news_cells w8 ⟨p, t, .slice a8 n8 c8, x⟩) (news_one _ _ _ _ _ _) (by decide) (by unfold maxLen; omega) (by omega) hwz _ rfl ?_)
        intro g9 c9 w9 hown10 hgr hat hlt
        obtain ⟨hd8, ho8, hB9, hb9, hbl9, hBe, hme, hset⟩ := HK.out
        have hbl10 := hbl9.step (x := ⟨p, t, .slice a8 n8 c8, x⟩) (hd8.kept fun g hg => hb9.block g (hd8.lt g hg)) (fun g hg => (by have := ho8 g hg; (try simp at this); omega)) hgr hown10
        have hB10 := hbl9.grown hgr (hBe.trans (hB9.mono hsr)) (Nat.le_refl _) hwz
        have HJ := hide' (And.intro hbl10 (And.intro hB10 (And.intro hme hset)))
        clear hd8 ho8 hB9 hb9 hbl9 hBe hme hset hbl10 hB10 hown10 hgr hat hown9 hi hz0 hz1 hz2 HK
        go_wp2
        obtain ⟨hbl10, hB10, hme, hset⟩ := HJ.out
        refine ⟨⟨k + 1, ms ++ [⟨p, t, .slice a8 n8 c8, x⟩], by omega, by simp, hbl10, by rw [List.length_append, HM.out]; rfl, ?_, hB10⟩, by simp [intOf]; omega⟩
        rw [List.map_append, hme, List.take_add_one, hset, List.map_append]
        rfl
      · have hset := (putS_ne (m := ⟨p, t, .slice da x.length dc, x⟩) hp).trans hn
        have hq : ((k : Int) == at') = false := beq_eq_false_iff_ne.2 hp
        go_wp2_with fail
        have hbx : Below wr.heap.size wr (wr.alloc (.cells #[.string (mk n.name), .int .i64 n.date, .slice ea n.data.length ec] 185)) := (Below.refl _ _).alloc (Nat.le_refl _) _
        refine (own_any ⟨n.name, n.date, .slice ea n.data.length ec, n.data⟩ _ (hrd.below hbx) (show List.length n.name ≤ _ by omega) (show List.length n.data ≤ _ by omega)).mono ?_
        rintro r w8 ⟨⟨v8, rfl, hd8, ho8⟩, hb8⟩
        obtain ⟨a8, n8, c8, hv8⟩ := hd8.form
        subst hv8
        dsimp only at hd8 ho8 ⊢
        have hB8 : Below wr.heap.size wr w8 := hbx.trans (hb8.mono hbx.size)
        have hb9 : Below w8.heap.size w8 (w8.alloc (.cells #[.string (mk n.name), .int .i64 n.date, .slice a8 n8 c8] 185)) := (Below.refl _ _).alloc (Nat.le_refl _) _
        have hbl9 := (hbl.below hB8).below hb9
        have hown9 := hbl9.own
        have hs8 := hB8.size
        have hsx := hbx.size
        have hwz : w1.heap.size ≤ (w8.alloc (.cells #[.string (mk n.name), .int .i64 n.date, .slice a8 n8 c8] 185)).heap.size := by rw [size_alloc']; omega
        have hB9 := hB8.trans (hb9.mono hB8.size)
        have HK := hide' (And.intro hd8 (And.intro ho8 (And.intro hB9 (And.intro hb9 (And.intro hbl9 (And.intro hBe (And.intro hme hset)))))))
        clear hd8 ho8 hB9 hb9 hbl9 hBe hme hset hb8 hbx hB8 hbl y1 hBw z1 z0 hsa hr hds hx hB1 hb1 hb0
        obtain ⟨inf, hi, hz0, hz1, hz2⟩ := info_parts info37
        go_wp2_with (at_builtin; refine wpList_append_lies _ rfl _ _ 180 rfl w1.heap.size 185 inf _ 3 48 Tryz.underlying180 hi hz0 hz1 hz2 rfl (by decide) (.slice la ms.length lc) ms.length (flat ms) rfl hown9 ⟨w8.heap.size, 0, none⟩ 1 1 (cellsM ⟨n.name, n.date, .slice a8 n8 c8, n.data⟩) rfl rfl (news_cells w8 ⟨n.name, n.date, .slice a8 n8 c8, n.data⟩) (news_one _ _ _ _ _ _) (by decide) (by unfold maxLen; omega) (by omega) hwz _ rfl ?_)
        intro g9 c9 w9 hown10 hgr hat hlt
        obtain ⟨hd8, ho8, hB9, hb9, hbl9, hBe, hme, hset⟩ := HK.out
        have hbl10 := hbl9.step (x := ⟨n.name, n.date, .slice a8 n8 c8, n.data⟩) (hd8.kept fun g hg => hb9.block g (hd8.lt g hg)) (fun g hg => (by have := ho8 g hg; (try simp at this); omega)) hgr hown10
        have hB10 := hbl9.grown hgr (hBe.trans (hB9.mono hsr)) (Nat.le_refl _) hwz
        have HJ := hide' (And.intro hbl10 (And.intro hB10 (And.intro hme hset)))
        clear hd8 ho8 hB9 hb9 hbl9 hBe hme hset hbl10 hB10 hown10 hgr hat hown9 hi hz0 hz1 hz2 HK
        go_wp2
        obtain ⟨hbl10, hB10, hme, hset⟩ := HJ.out
        refine ⟨⟨k + 1, ms ++ [⟨n.name, n.date, .slice a8 n8 c8, n.data⟩], by omega, by simp, hbl10, by rw [List.length_append, HM.out]; rfl, ?_, hB10⟩, by simp [intOf]; omega⟩
        rw [List.map_append, hme, List.take_add_one, hset, List.map_append]
        rfl
    · obtain rfl : k = ns.length := by omega
      have k1 : ¬ (ns.length : Int) < ns.length := by omega
      rw [List.take_of_length_le (by rw [putS_len]; exact Nat.le_refl _)] at hme
      have hset : placeR ns p = at' := HA.out.symm
      have hput := putM_eq ns ⟨p, t, .slice da x.length dc, x⟩
      rw [show placeR ns (Mv.name ⟨p, t, .slice da x.length dc, x⟩) = at' from hset] at hput
      by_cases hneg : at' < 0
      · rw [if_pos hneg] at hput
        have HP := hide' hput
        clear hput
        have m0 : wr.cell? ⟨w.heap.size, 0, none⟩ = some (.string (mk p)) := by rw [Lib.cell_of_heap y1]; rfl
        have m1 : wr.cell? ⟨w.heap.size, 1, none⟩ = some (.int .i64 t) := by rw [Lib.cell_of_heap y1]; rfl
        have m2 : wr.cell? ⟨w.heap.size, 2, none⟩ = some (.slice da x.length dc) := by rw [Lib.cell_of_heap y1]; rfl
        have HS := hide' (And.intro hset (And.intro hB1 hB1.size))
        clear hset
        go_wp2_with fail
        have hset : True := trivial
        have hbx : Below wr.heap.size wr wr := Below.refl _ _
        refine (own_any ⟨p, t, .slice da x.length dc, x⟩ _ ((hx.below hBw).below hbx) (show List.length p ≤ _ by omega) (show List.length x ≤ _ by omega)).mono ?_
        rintro r w8 ⟨⟨v8, rfl, hd8, ho8⟩, hb8⟩
        obtain ⟨a8, n8, c8, hv8⟩ := hd8.form
        subst hv8
        dsimp only at hd8 ho8 ⊢
        have hB8 : Below wr.heap.size wr w8 := hbx.trans (hb8.mono hbx.size)
        have hb9 : Below w8.heap.size w8 (w8.alloc (.cells #[.string (mk p), .int .i64 t, .slice a8 n8 c8] 185)) := (Below.refl _ _).alloc (Nat.le_refl _) _
        have hbl9 := (hbl.below hB8).below hb9
        have hown9 := hbl9.own
        have hs8 := hB8.size
        have hsx := hbx.size
        have hwz : w1.heap.size ≤ (w8.alloc (.cells #[.string (mk p), .int .i64 t, .slice a8 n8 c8] 185)).heap.size := by rw [size_alloc']; omega
        have hB9 := hB8.trans (hb9.mono hB8.size)
        have HK := hide' (And.intro hd8 (And.intro ho8 (And.intro hB9 (And.intro hb9 (And.intro hbl9 (And.intro hBe (And.intro hme hset)))))))
        clear hd8 ho8 hB9 hb9 hbl9 hBe hme hset hb8 hbx hB8 hbl y1 hBw z1 z0 hsa hr hds hx hB1 hb1 hb0
        obtain ⟨inf, hi, hz0, hz1, hz2⟩ := info_parts info37
        go_wp2_with (at_builtin; refine wpList_append_lies _ rfl _ _ 180 rfl w1.heap.size 185 inf _ 3 48 Tryz.underlying180 hi hz0 hz1 hz2 rfl (by decide) (.slice la ms.length lc) ms.length (flat ms) rfl hown9 ⟨w8.heap.size, 0, none⟩ 1 1 (cellsM ⟨p, t, .slice a8 n8 c8, x⟩) rfl rfl (news_cells w8 ⟨p, t, .slice a8 n8 c8, x⟩) (news_one _ _ _ _ _ _) (by decide) (by unfold maxLen; omega) (by omega) hwz _ rfl ?_)
        intro g9 c9 w9 hown10 hgr hat hlt
        obtain ⟨hd8, ho8, hB9, hb9, hbl9, hBe, hme, hset⟩ := HK.out
        have hbl10 := hbl9.step (x := ⟨p, t, .slice a8 n8 c8, x⟩) (hd8.kept fun g hg => hb9.block g (hd8.lt g hg)) (fun g hg => (by have := ho8 g hg; (try simp at this); omega)) hgr hown10
        have hB10 := hbl9.grown hgr (hBe.trans (hB9.mono hsr)) (Nat.le_refl _) hwz
        have HJ := hide' (And.intro hbl10 (And.intro hB10 (And.intro hme hset)))
        clear hd8 ho8 hB9 hb9 hbl9 hBe hme hset hbl10 hB10 hown10 hgr hat hown9 hi hz0 hz1 hz2 HK
        go_wp2
        obtain ⟨hbl10, hB10, hme, _⟩ := HJ.out
        obtain ⟨_, hB1, hsz⟩ := HS.out
        go_ret
        refine ⟨⟨.slice (some ⟨g9, 0, none⟩) (ms.length + 1) c9, ms ++ [⟨p, t, .slice a8 n8 c8, x⟩], rfl, hbl10.msAt.mono hsz, ?_⟩, hB1.trans (hB10.mono hsz)⟩
        rw [HP.out, List.map_append, hme, List.map_append]
        rfl
      · rw [if_neg hneg] at hput
        have hB3 := hB1.trans (hBe.mono hB1.size)
        have HS := hide' (And.intro hput (And.intro hB3 (And.intro hme (And.intro hbl hB1.size))))
        clear hput hset hB3 hme hbl y1 hBw z1 z0 hsa hr hds hx hB1 hb1 hb0 hBe
        go_wp2
        go_ret
        obtain ⟨hput, hB3, hme, hbl, hsz⟩ := HS.out
        exact ⟨⟨.slice la ms.length lc, ms, rfl, hbl.msAt.mono hsz, by rw [hme, hput]⟩, hB3⟩
theorem Put_any (v : Value) (ns : List Mv) (m : Mv) (w : World) (h : Mems w v ns) (hm : Rds w m.dv m.data) (hl : ns.length ≤ 100000) (hds : ∀ n ∈ ns, n.name.length ≤ 300000 ∧ n.data.length ≤ 300000) (hpl : m.name.length ≤ 300000) (hxl : m.data.length ≤ 300000) :
    Calls Tryz.prog 128 #[v, .agg #[.string (mk m.name), .int .i64 m.date, m.dv]] w fun r w' => MsR w.heap.size ((putM ns m).map toE) w' r ∧ Below w.heap.size w w' := by
  obtain ⟨da, dc, hdv⟩ := hm.len
  obtain ⟨p, t, dv, x⟩ := m
  dsimp only at *
  subst hdv
  rcases h with ⟨⟨a, c, rfl⟩, rfl⟩ | ⟨g, o, cap, rfl, h0, h1, h2⟩
  · exact put_any' a c [] p t da dc x w (.inl ⟨⟨_, _, rfl⟩, rfl⟩) (fun e => absurd rfl e) (fun n hn => (by cases hn)) hm hl hds hpl hxl
  · exact put_any' _ cap ns p t da dc x w (.inr ⟨g, o, cap, rfl, h0, h1, h2⟩) (fun _ => ⟨g, o, rfl, h1⟩) h2 hm hl hds hpl hxl
end Go.Proofs.YtbfchadcpokjoaaGreatDoor.Arc
namespace Go.Proofs.YtbfchadcpokjoaaGreatDoor.Arc
open Go.RowKit Go.Maps Go.Shelf
set_option maxRecDepth 100000

def scanR (bs : Bs) : Option (List Mm) := if Lib.hasPrefix bs magicB = true then scanP 5001 [] (bs.drop 8) [] else none
theorem tE_toE : tE = toE := rfl
/-- a list's archive is scanned to it -/
theorem arch_scan {ms : List Mv} {bs : Bs} (h : wrongR ms = 0) (e : archB ms = bs) : scanR bs = some (ms.map tE) ∧ bs.length ≤ 65536 := by
  obtain ⟨h1, h2, h3⟩ := wrong_zero h
  subst e
  refine ⟨?_, by rw [arch_length h2 h3]; exact h2⟩
  unfold scanR
  have hp : Lib.hasPrefix (archB ms) magicB = true := by
    unfold archB
    rw [List.append_assoc]
    unfold Lib.hasPrefix
    simp [magicB]
  rw [if_pos hp]
  exact scan_arch ms h 5001 (Nat.le_refl _)
/-- nothing told, no list -/
theorem none_arch {bs : Bs} (h : scanR bs = none) : ∀ ms, wrongR ms = 0 → archB ms ≠ bs := fun ms h1 h2 => by
  have := (arch_scan h1 h2).1
  rw [h] at this
  cases this
theorem no_long {bs : Bs} (h : 65536 < bs.length) : ∀ ms, wrongR ms = 0 → archB ms ≠ bs := fun ms h1 h2 => by
  have := (arch_scan h1 h2).2
  omega
theorem no_other {bs : Bs} {ns : List Mv} (hs : scanR bs = some (ns.map tE)) (h : wrongR ns ≠ 0 ∨ archB ns ≠ bs) : ∀ ms, wrongR ms = 0 → archB ms ≠ bs := fun ms h1 h2 => by
  have e := (arch_scan h1 h2).1
  rw [hs] at e
  have e2 : ns.map toE = ms.map toE := Option.some.inj e
  rcases h with h | h
  · exact h ((wrong_map e2).trans h1)
  · exact h ((arch_map e2).trans h2)
theorem cutP_some {b c d x y : Bs} (h : cutP b = some (c, d, x, y)) : c.length ≤ 16 ∧ d.length ≤ 16 ∧ x.length ≤ b.length ∧ y.length + 60 ≤ b.length := by
  unfold cutP at h
  split at h
  · cases h
  · rename_i hl
    split at h
    · cases h
    · split at h
      · have e := Option.some.inj h
        have e1 := congrArg Prod.fst e
        have e2 := congrArg (fun p => p.2.1) e
        have e3 := congrArg (fun p => p.2.2.1) e
        have e4 := congrArg (fun p => p.2.2.2) e
        dsimp only at e1 e2 e3 e4
        subst e1 e2 e3 e4
        have t1 := trimR_len (b.take 16)
        have t2 := trimR_len ((b.drop 16).take 12)
        have t3 := List.length_take_le 16 b
        have t4 := List.length_take_le 12 (b.drop 16)
        refine ⟨by omega, by omega, ?_, ?_⟩
        · rw [List.length_take, List.length_drop]; omega
        · rw [List.length_drop, List.length_drop]; omega
      · cases h
theorem scan_end (k : Nat) (t : Bs) (l : List Mm) : scanP k t [] l = some l := by
  cases k <;> simp [scanP]
theorem scan_none {k : Nat} {t r : Bs} {l : List Mm} (hr : r ≠ []) (h : cutP r = none) : scanP (k + 1) t r l = none := by
  rw [scanP, if_neg hr, h]
theorem scan_tab {k : Nat} {t r c d x y : Bs} {l : List Mm} (hr : r ≠ []) (h : cutP r = some (c, d, x, y)) (hc : c = [47, 47]) : scanP (k + 1) t r l = scanP k x y l := by
  rw [scanP, if_neg hr, h]
  dsimp only
  rw [if_pos hc]
theorem scan_mem {k : Nat} {t r c d x y n : Bs} {v : Nat} {l : List Mm} (hr : r ≠ []) (h : cutP r = some (c, d, x, y)) (hc : c ≠ [47, 47]) (hn : nameP c t = some n) (hv : valP d = some v) : scanP (k + 1) t r l = scanP k t y (l ++ [(n, (v : Int), x)]) := by
  rw [scanP, if_neg hr, h]
  dsimp only
  rw [if_neg hc, hn, hv]
theorem scan_bad {k : Nat} {t r c d x y : Bs} {l : List Mm} (hr : r ≠ []) (h : cutP r = some (c, d, x, y)) (hc : c ≠ [47, 47]) (hn : nameP c t = none ∨ valP d = none) : scanP (k + 1) t r l = none := by
  rw [scanP, if_neg hr, h]
  dsimp only
  rw [if_neg hc]
  rcases hn with hn | hn
  · rw [hn]
  · rw [hn]
    cases nameP c t <;> rfl
/-- small lists are fine -/
theorem fine_small {ms : List Mv} (hl : ms.length ≤ 5001) (h : ∀ m ∈ ms, m.name.length ≤ 70000 ∧ m.data.length ≤ 70000) : Fine ms := by
  have h0 : ∀ l : List Mv, (∀ m ∈ l, m.name.length ≤ 70000 ∧ m.data.length ≤ 70000) → sumM wtD l ≤ 80000 * l.length ∧ sumM wtT l ≤ 80000 * l.length := by
    intro l
    induction l with
    | nil => intro _; simp [sumM]
    | cons m r ih =>
      intro h
      obtain ⟨a, b⟩ := h m (List.mem_cons_self ..)
      have := ih fun n hn => h n (List.mem_cons_of_mem _ hn)
      have h1 : wtD m ≤ 80000 := by unfold wtD evn; omega
      have h2 : wtT m ≤ 80000 := by unfold wtT; split <;> omega
      simp only [sumM, List.length_cons]
      omega
  obtain ⟨h1, h2⟩ := h0 ms h
  refine ⟨by omega, ?_, fun m hm => by have := h m hm; omega⟩
  unfold lenA evn
  split <;> omega
end Go.Proofs.YtbfchadcpokjoaaGreatDoor.Arc
