/- The contract of lines.other: the text of the first logical line, as one that is no recipe's, and how many lines it has. -/
import Derived.Test.YteleakbefebabaaDoorRc
import Derived.Test.YteleakbefebabaaDoorShelfb
import Derived.Lib.BufferRead
namespace Go.Proofs.YteleakbefebabaaDoor
open Go.RowKit Go.Shelf
attribute [local go_sem] Oper.semAt_some

/-- append of a text onto a row of bytes of the call's own, inside a fence -/
theorem wpListIn_append_str {F : Fence} {n' : Nat} {P : Program} {ops : Array Oper} {rest : List Oper} {o : Oper} {a : Act} {Q : Exit → Act → World → Prop} (w : World) (hgd : o.guard = none) (sl x : Operand) (t u : TypeId)
    (ho : o.op = .call { callee := .builtin .append, args := #[sl, x], argTypes := #[t, u] })
    (base : Nat) (e : TypeId) (i : TypeInfo) (ht : P.underlying t = some (.slice e)) (hu : P.underlying u = some .string) (hi : P.info? e = some i) (hz : i.zero = some (.int .u8 0))
    (hsize : i.size = 1) (hby : i.bytes = 1)
    (v : Value) (n : Nat) (xs : List Value) (hs : a.eval sl = v) (hown : w.ownsRow base e 1 v n xs) (s : ByteArray) (hx : a.eval x = .string s)
    (h63 : n + s.size ≤ maxLen) (hbytes : n + s.size ≤ 140737488355328) (hbase : base ≤ w.heap.size)
    (h : ∀ v' w', w'.ownsRow base e 1 v' (n + s.size) (xs ++ Lib.strCells s) → w.grownBy w' v.ownBlock → wpListIn F n' P ops Q rest (a.put o.dst v') w') : wpListIn F n' P ops Q (o :: rest) a w := by
  refine wpListIn_plain hgd fun K hK => ?_
  obtain ⟨v', w', hr, h2, h3, _⟩ := Lib.run_append_own_string (P := P) w base t u o.type e i ht hu hi hz hsize hby v n xs hown s h63 hbytes hbase
  unfold Oper.wpIn
  refine ⟨?_, ?_⟩
  · simp [Oper.about, ho, resolve, Target.leads, Sem.run_pure]
  · rw [Oper.semAt_plain F _ _ (by rw [ho]; intro c hc'; cases hc')]
    simp [execOp, ho, resolve, invoke, builtin, hs, hx, hr, Result.andThen]
    exact hK _ _ (h v' w' h2 h3)

/-- the box at B0 holds the bytes l, the box behind it the count m -/
structure Ox (w : World) (R : Nat) (v : Value) (l : List UInt8) (m : Nat) (W : World) : Prop where
  box : Boxed W w.heap.size 39 v
  row : W.ownsRow R 5 1 v l.length (Lib.byteCells l)
  cnt : Boxed W (w.heap.size + 1) 3 (.int .i64 m)
  below : Below w.heap.size w W
  room : R ≤ W.heap.size
/-- what the steps of a round leave alone -/
def St (w : World) (R : Nat) (W W' : World) : Prop := Kf (fun k => k = w.heap.size ∨ k = w.heap.size + 1) R W W' ∧ KeepsOthers W W'
theorem St.refl (w : World) (R : Nat) (W : World) : St w R W W := ⟨Kf.refl _ _ _, KeepsOthers.refl _⟩
theorem St.t {w : World} {R : Nat} {X Y Z : World} (h : St w R X Y) (k : St w R Y Z) : St w R X Z := ⟨h.1.t k.1, h.2.trans k.2⟩
/-- the row is turned, and what comes of it is put into the box -/
theorem Ox.put {w W W1 W2 : World} {R m : Nat} {v v' : Value} {l l' : List UInt8} (h : Ox w R v l m W) (hR : w.heap.size + 1 < R) (hb1 : Below W.heap.size W W1) (hg : W1.grownBy W2 v.ownBlock) (hr : W2.ownsRow R 5 1 v' l'.length (Lib.byteCells l')) :
    Boxed W2 w.heap.size 39 v ∧ Ox w R v' l' m (W2.setCell ⟨w.heap.size, 0, none⟩ v') ∧ St w R W (W2.setCell ⟨w.heap.size, 0, none⟩ v') := by
  have hg3 := grownBy_setCell' W2 w.heap.size v'
  have hs1 := hb1.size
  have hs2 := hg.size
  have hs3 := hg3.size
  have hrm := h.room
  have b1 : Boxed W1 w.heap.size 39 v := (hb1.block _ h.box.lt).trans h.box
  have b2 : Boxed W2 w.heap.size 39 v := b1.kept hg (fun e => row_not h.row (by omega) e.symm)
  have c1 : Boxed W1 (w.heap.size + 1) 3 (.int .i64 m) := (hb1.block _ h.cnt.lt).trans h.cnt
  have c2 : Boxed W2 (w.heap.size + 1) 3 (.int .i64 m) := c1.kept hg (fun e => row_not h.row hR e.symm)
  have hk1 : KeepsOthers W1 W2 := KeepsOthers.of_grownBy hg fun j o ej hj => by
    rcases h.row.2 with ⟨rfl, _⟩ | ⟨g, cap, cur, rfl, _, hgb, _⟩
    · simp [Value.ownBlock] at ej
    · obtain rfl : g = j := by simpa [Value.ownBlock] using ej
      rw [hb1.block g (Array.getElem?_eq_some_iff.1 hgb).1, hgb] at hj; cases hj; rfl
  refine ⟨b2, ⟨b2.set v', hr.kept hg3 (.inr (row_not hr (by omega))), c2.kept hg3 (by simp), ?_, by omega⟩, ⟨by omega, fun k hk hkA => ?_⟩, ((keeps_below hb1).trans hk1).trans (KeepsOthers.setCell _ _ _)⟩
  · have hbb : Below w.heap.size w W1 := h.below.trans (hb1.mono h.below.size)
    refine (hbb.grown hg (by omega) fun k hk => ?_).setCell (p := ⟨w.heap.size, 0, none⟩) (Nat.le_refl _) v'
    rcases h.row.2 with ⟨rfl, _⟩ | ⟨g, cap, cur, rfl, hgR, _⟩
    · simp [Value.ownBlock] at hk
    · obtain rfl : g = k := by simpa [Value.ownBlock] using hk
      omega
  · exact (Below.heap_setCell _ _ _ _ (fun e => hkA (.inl e))).trans ((hg.block k (by omega) (fun e => row_not h.row hk e.symm)).trans (hb1.block k (by omega)))
theorem Ox.later {w W W1 : World} {R m : Nat} {v : Value} {l : List UInt8} (h : Ox w R v l m W) (hb : Below W.heap.size W W1) : Ox w R v l m W1 ∧ St w R W W1 :=
  ⟨⟨(hb.block _ h.box.lt).trans h.box, h.row.kept (row := none) ⟨hb.os, hb.tape, hb.output, hb.size, fun k hk _ => hb.block k hk⟩ (by rcases h.row.2 with ⟨rfl, _⟩ | ⟨g, cap, cur, rfl, _⟩; exact .inl rfl; exact .inr (by simp [Value.ownBlock])), (hb.block _ h.cnt.lt).trans h.cnt, h.below.trans (hb.mono h.below.size), Nat.le_trans h.room hb.size⟩, Kf.below hb h.room, keeps_below hb⟩
theorem Ox.count {w W : World} {R m : Nat} {v : Value} {l : List UInt8} (h : Ox w R v l m W) (hR : w.heap.size + 1 < R) (m' : Int) (k : Nat) (hm : m' = k) :
    Ox w R v l k (W.setCell ⟨w.heap.size + 1, 0, none⟩ (.int .i64 m')) ∧ St w R W (W.setCell ⟨w.heap.size + 1, 0, none⟩ (.int .i64 m')) := by
  subst hm
  have hg3 := grownBy_setCell' W (w.heap.size + 1) (.int .i64 (k : Int))
  have hs3 := hg3.size
  have hrm := h.room
  exact ⟨⟨h.box.kept hg3 (by simp), h.row.kept hg3 (.inr (row_not h.row hR)), h.cnt.set _, h.below.setCell (p := ⟨w.heap.size + 1, 0, none⟩) (by simp) _, by omega⟩,
    ⟨hs3, fun k _ hkA => Below.heap_setCell _ _ _ _ (fun e => hkA (.inr e))⟩, KeepsOthers.setCell _ _ _⟩
theorem row_shrink {W : World} {R g n cap k : Nat} {l : List UInt8} (h : W.ownsRow R 5 1 (.slice (some ⟨g, 0, none⟩) n cap) l.length (Lib.byteCells l)) (hk : k ≤ l.length) : W.ownsRow R 5 1 (.slice (some ⟨g, 0, none⟩) k cap) (l.take k).length (Lib.byteCells (l.take k)) := by
  have hl : (l.take k).length = k := by rw [List.length_take]; omega
  refine ⟨by rw [Lib.byteCells_length]; omega, .inr ?_⟩
  rcases h.2 with ⟨e, _⟩ | ⟨g', cap', cur, e, hg, hgb, h1, h2, h3, h4⟩
  · cases e
  · cases e
    refine ⟨_, _, cur, by rw [hl], hg, hgb, by omega, h2, h3, ?_⟩
    rw [hl]
    have h5 : Lib.byteCells (l.take k) = (Lib.byteCells l).take k := by simp [Lib.byteCells, List.map_take]
    rw [h5, ← h4, List.take_take]
    congr 1
    omega
theorem row_bytes {W : World} {R g n cap k : Nat} {l : List UInt8} (h : W.ownsRow R 5 1 (.slice (some ⟨g, 0, none⟩) n cap) l.length (Lib.byteCells l)) (hk : k ≤ l.length) : Lib.BytesAt W (some ⟨g, 0, none⟩) k (l.take k) := fun h0 => by
  refine ⟨g, 0, rfl, fun i hi => ?_⟩
  have hc := h.cells (g := g) rfl i (.int .u8 (l.getD i 0).toNat) (by simp [Lib.byteCells, List.getD_eq_getElem?_getD, List.getElem?_eq_getElem (show i < l.length by omega)])
  rw [show (l.take k).getD i 0 = l.getD i 0 by simp [List.getD_eq_getElem?_getD, hi]]
  have ea : ((⟨g, 0, none⟩ : Addr).add i) = ⟨g, 0 + i, none⟩ := by cases i <;> simp [Addr.add]
  rw [← ea]
  exact hc
theorem info68 : (Tryd.prog.info? 68).map (fun i : TypeInfo => (i.zero, i.size)) = some (some (.agg (Array.replicate 256 (.bool false))), 256) := by kernel_rfl
theorem trimR_any (p : Option Addr) (n c : Nat) (bs : List UInt8) (w : World) (hb : bs.length = n) (hnc : n ≤ c) (hbig : c ≤ 9223372036854775807) (h1 : Lib.BytesAt w p n bs) :
    Calls Tryd.prog 33 #[.slice p n c, .string ⟨#[32, 9, 10]⟩] w fun e w' => e = .returned (.slice p (Lib.trimRightS bs blk).length c) ∧ Below w.heap.size w w' :=
  Any.bytes_TrimRight_ascii Tryd.laysV7 (zero_of_info info68).1 (zero_of_info info68).2 p n c bs ⟨#[32, 9, 10]⟩ w hb hnc hbig h1 (by decide) (ascii_of_all (by decide))
theorem info62 : (Tryd.prog.info? 62).map (fun i : TypeInfo => (i.zero, i.size)) = some (some (.agg (Array.replicate 256 (.bool false))), 256) := by kernel_rfl
theorem trimL_any (s : ByteArray) (w : World) : Calls Tryd.prog 34 #[.string s, .string ⟨#[32, 9, 10]⟩] w fun e w' => e = .returned (.string (mk (Lib.trimLeftS (tl s) blk))) ∧ Below w.heap.size w w' :=
  Any.strings_TrimLeft_laid Tryd.lays161 info62 s ⟨#[32, 9, 10]⟩ w (by decide) (ascii_of_all (by decide))
theorem trim_any (s : ByteArray) (w : World) (hs : s.size ≤ 1000000) : Calls Tryd.prog 32 #[.string s, .string ⟨#[32, 9, 10]⟩] w fun e w' => e = .returned (.string (mk (Lib.trimS (tl s) blk))) ∧ Below w.heap.size w w' :=
  Any.strings_Trim_laid Tryd.lays160 info62 s ⟨#[32, 9, 10]⟩ w (by omega) (by decide) (ascii_of_all (by decide))
/-- the row behind the trim -/
theorem trim_row {W W1 : World} {R g n cap : Nat} {l : List UInt8} (h : W.ownsRow R 5 1 (.slice (some ⟨g, 0, none⟩) n cap) l.length (Lib.byteCells l)) (hb : Below W.heap.size W W1) :
    W1.ownsRow R 5 1 (.slice (some ⟨g, 0, none⟩) (Lib.trimRightS l.dropLast blk).length cap) (Lib.trimRightS l.dropLast blk).length (Lib.byteCells (Lib.trimRightS l.dropLast blk)) := by
  have hle : (Lib.trimRightS l.dropLast blk).length ≤ l.length := Nat.le_trans (trimR_le _ _) (by simp)
  have e : Lib.trimRightS l.dropLast blk = l.take (Lib.trimRightS l.dropLast blk).length := by
    have h1 := Lib.trimRightS_eq_take l.dropLast blk
    have h2 := trimR_le l.dropLast blk
    rw [List.dropLast_eq_take, List.take_take] at h1
    rw [List.length_dropLast] at h2
    rw [List.dropLast_eq_take] at h2 ⊢
    rw [Nat.min_eq_left h2] at h1
    exact h1
  have h1 := row_shrink h hle
  rw [← e] at h1
  exact h1.kept ⟨hb.os, hb.tape, hb.output, hb.size, fun k hk _ => hb.block k hk⟩ (row := none) (.inr (by simp [Value.ownBlock]))

/-- string(b) of a row of bytes of the call's own -/
theorem row_str {W : World} {R : Nat} {v : Value} {l : List UInt8} (h : W.ownsRow R 5 1 v l.length (Lib.byteCells l)) : (convert 39 9 v).run Tryd.prog W = .ok (.string (mk l)) W := by
  rcases h.2 with ⟨rfl, h0⟩ | ⟨g, cap, cur, rfl, _⟩
  · obtain rfl := List.length_eq_zero_iff.1 h0
    exact Lib.run_convert_nil_bytes W 39 9 5 0 Tryd.underlying39 Tryd.underlying5 Tryd.underlying9
  · refine run_convert_bytes_back W 39 9 5 ⟨g, 0, none⟩ cap l Tryd.underlying39 Tryd.underlying5 Tryd.underlying9 fun j hj => ?_
    exact h.cells (g := g) rfl j _ (by simp [Lib.byteCells, hj])

/-- what holds between two rounds of other -/
def OtI (w : World) (R : Nat) (pre : List ByteArray) (W : World) : Prop := ∃ v, Ox w R v (oth (pre.map tl)) pre.length W
theorem OtI.own (w : World) (R N : Nat) (hwN : w.heap.size ≤ N) : OwnFrom N (OtI w R) := fun s W W' row hs hg hr => by
  obtain ⟨v, h⟩ := hs
  refine ⟨v, ⟨box_own w.heap.size 39 (fun _ : Unit => v) N () W W' row h.box hg hr, h.row.kept hg ?_, box_own (w.heap.size + 1) 3 (fun pre : List ByteArray => .int .i64 pre.length) N s W W' row h.cnt hg hr,
   h.below.grown hg h.below.size (fun k e => Nat.le_trans hwN (hr k e).1), Nat.le_trans h.room hg.size⟩⟩
  rcases h.row.2 with ⟨rfl, _⟩ | ⟨g, cap, cur, rfl, _, hgb, _⟩
  · exact .inl rfl
  · refine .inr fun e => ?_
    obtain ⟨_, o, ho, hc⟩ := hr g (by simpa [Value.ownBlock] using e.symm)
    rw [hgb] at ho; cases ho; cases hc

set_option maxRecDepth 100000 in
set_option maxHeartbeats 2000000 in
theorem other_any (L : List ByteArray) (al : Option Addr) (cl : Nat) (w : World) (hz : Szs L) (hL : Txt w al L) :
    Calls Tryd.prog 23 #[.slice al L.length cl] w fun e w' => e = .returned (.tuple #[.string (mk (oth (jn (L.map tl)))), .int .i64 (jn (L.map tl)).length]) ∧ Below w.heap.size w w' := by
  obtain ⟨i0, hi, hz0, hz1, hz2⟩ := info_parts info5
  have HL := hide' hL
  have HZ := hide' hz
  clear hL hz
  obtain ⟨m, HM⟩ : ∃ m, Hid (m = (jn (L.map tl)).length) := ⟨_, rfl⟩
  obtain ⟨t, HT⟩ : ∃ t, Hid (t = oth (jn (L.map tl))) := ⟨_, rfl⟩
  rw [← HM.out, ← HT.out]
  refine (callsIn_wide (n := 5)).1 ?_
  refine callsIn_of_wp_marks Tryd.func23 rfl trivial ?_ rfl
  simp only [Tryd.ntmps23, List.size_toArray, List.length_cons, List.length_nil, Nat.reduceAdd, Nat.reduceSub, Array.replicate_succ, Array.replicate_zero, List.push_toArray, List.append_toArray, List.nil_append, List.cons_append]
  gi_wp2_with (refine ⟨trivial, ?_⟩; gi_at_call 29; refine (callsIn_wide.2 (joined_any _ _ _ _)).mono ?_; rintro e w' ⟨rfl, rfl⟩)
  obtain ⟨W0, hW0⟩ : ∃ W0, W0 = ((w.alloc (Obj.cells #[Value.slice none 0 0] 39)).alloc (Obj.cells #[Value.int IntKind.i64 0] 3)).alloc (Obj.cells #[Value.slice al L.length cl] 23) := ⟨_, rfl⟩
  rw [← hW0]
  have hs0 : W0.heap.size = w.heap.size + 3 := by rw [hW0]; simp
  have hB0 : Below w.heap.size w W0 := by rw [hW0]; exact (((Below.refl _ w).alloc (Nat.le_refl _) _).alloc (by simp) _).alloc (by simp; omega) _
  have b1 : Boxed W0 w.heap.size 39 (.slice none 0 0) := by rw [hW0]; exact ((Boxed.new w 39 (.slice none 0 0)).alloc _).alloc _
  have b2 : Boxed W0 (w.heap.size + 1) 3 (.int .i64 0) := by
    have := (Boxed.new (w.alloc (Obj.cells #[Value.slice none 0 0] 39)) 3 (.int .i64 0)).alloc (Obj.cells #[Value.slice al L.length cl] 23)
    rw [World.size_alloc, ← hW0] at this
    exact this
  have b3 : Boxed W0 (w.heap.size + 1 + 1) 23 (.slice al L.length cl) := by
    have := Boxed.new ((w.alloc (Obj.cells #[Value.slice none 0 0] 39)).alloc (Obj.cells #[Value.int IntKind.i64 0] 3)) 23 (.slice al L.length cl)
    rw [World.size_alloc, World.size_alloc, ← hW0] at this
    exact this
  have hE : ∀ W', Kf (fun k => k = w.heap.size ∨ k = w.heap.size + 1) W0.heap.size W0 W' → Ev L al cl (w.heap.size + 1 + 1) W' := by
    intro W' h
    refine ⟨(h.2 _ (by omega) (by omega)).trans b3, fun k hk => ?_⟩
    obtain ⟨b, off, e, h1, h2⟩ := HL.out k hk
    have hs := h.1
    exact ⟨b, off, e, by omega, (h.cell b _ (by omega) (by omega)).trans ((hB0.cell (p := ⟨b, off + k, none⟩) h1).trans h2)⟩
  have hmx : Tryd.prog.follows .mixedOrders = true := by kernel_rfl
  have hseq := joined_seq 4 (by decide) (fun k => k = w.heap.size ∨ k = w.heap.size + 1) W0.heap.size (w.heap.size + 1 + 1) L al cl HZ.out.len HZ.out.each W0 (Nat.le_refl _) hE
  clear hE hW0 HL
  refine range_of rfl (by decide) (gf := 37) (lb := #[.pointer (some ⟨w.heap.size + 1 + 1, 0, none⟩)]) rfl trivial (enters_of Tryd.func37 (by kernel_rfl) rfl)
    hseq (fun h k => Kf.t h k) (fun W l o' hl => Kf.b W l o' hl) (fun X Y e => e ▸ KeepsFrom.refl _ _) (fun _ => rfl)
    (OtI w W0.heap.size) (fun _ _ _ => False) (OtI.own w _ _ (by omega)) (fun _ _ _ _ _ hs _ _ => hs) (fun pre X Y h e => e ▸ h) (fun _ _ _ _ h _ => h)
    ⟨_, b1, World.ownsRow_nil _ _ _ _, b2, hB0, Nat.le_refl _⟩
    (fun x => { tmps := #[.slice al L.length cl, undef, .string ⟨#[]⟩, .int .i64 0, .pointer (some ⟨w.heap.size, 0, none⟩), .pointer (some ⟨w.heap.size + 1, 0, none⟩), .string x, .slice al L.length cl, .func (.func 37) #[] #[.pointer (some ⟨w.heap.size + 1 + 1, 0, none⟩)], .string x, undef, undef, undef, undef, undef, undef, undef, undef, undef, undef, undef, undef, undef, undef, undef, undef, undef, undef, undef, undef, undef], defers := [] }) ?assign ?body ?done ?stop
  case assign =>
    intro l x W K hK
    gi_wp2
    exact hK
  case body =>
    rintro l pre x W hpf ⟨v, hox⟩
    have hbc := hox.box.cell
    have hcc := hox.cnt.cell
    have hx1 : x.size ≤ 1000000 := by rw [hpf.at_]; exact HZ.out.each _
    have hx2 : (oth (pre.map tl)).length ≤ 1000000 := by
      have h1 := oth_le (pre.map tl)
      have h2 := take_sum L pre.length
      rw [← hpf.beg] at h2
      have := HZ.out.sum
      omega
    have hml : pre.length < 1000000 := by have := hpf.lt; have := HZ.out.len; omega
    have hR1 : w.heap.size + 1 < W0.heap.size := by omega
    have hst := oth_snoc (pre.map tl) (tl x)
    rw [List.length_map, ← List.map_singleton, ← List.map_append] at hst
    have HST := hide' hst
    have hop := hpf.open_
    clear hst hpf b1 b2 b3 hB0 hseq hs0
    by_cases hm : pre.length = 0
    · have HS2 : Hid (oth (pre.map tl) ++ tl x = oth ((pre ++ [x]).map tl)) := by
        show _ = _
        rw [HST.out]; unfold ostep; rw [if_pos hm]
      have d2 : ¬ (0 : Int) < (pre.length : Int) := by omega
      have d3 : decide (0 < pre.length) = false := by simp [hm]
      have d4 : ¬ 0 < pre.length := by omega
      clear hm
      gi_wp2_with (gi_at_builtin; refine wpListIn_append_str _ rfl _ _ 39 9 rfl W0.heap.size 5 i0 Tryd.underlying39 Tryd.underlying9 hi hz0 hz1 hz2 _ _ _ rfl hox.row x rfl (by unfold maxLen; omega) (by omega) hox.room ?_)
      intro v' w2 hown' hgrow
      have e1 : Lib.byteCells (oth (pre.map tl) ++ tl x) = Lib.byteCells (oth (pre.map tl)) ++ Lib.strCells x := by simp [Lib.byteCells, Lib.strCells, tl]
      rw [← e1, ← tl_len, ← List.length_append, HS2.out] at hown'
      obtain ⟨ao, n', cap, rfl⟩ : ∃ ao n' cap, v' = .slice ao n' cap := by
        rcases hown'.2 with ⟨hv, _⟩ | ⟨g, cap, cur, hv, _⟩
        · exact ⟨_, _, _, hv⟩
        · exact ⟨_, _, _, hv⟩
      obtain ⟨bx, hox2, hst2⟩ := hox.put hR1 (Below.refl _ _) hgrow hown'
      have hbc2 := bx.cell
      have hbf2 := bx.frozen
      have hcc2 := hox2.cnt.cell
      have hcf2 := hox2.cnt.frozen
      obtain ⟨hox3, hst3⟩ := hox2.count hR1 ((pre.length : Int) + 1) (pre ++ [x]).length (by simp)
      have hst4 := hst2.t hst3
      clear hst2 hst3 hgrow e1 hown' HS2 HST hop
      gi_wp2
      exact ⟨hst4.2.from _, hst4.1, _, hox3⟩
    · have d2 : (0 : Int) < (pre.length : Int) := by omega
      have d3 : decide (0 < pre.length) = true := by simp; omega
      have d4 : 0 < pre.length := by omega
      have hne : oth (pre.map tl) ≠ [] := oth_ne _ (by intro e; simp at e; subst e; simp at hm) (fun y hy => by obtain ⟨z, hz, rfl⟩ := List.mem_map.1 hy; exact hop z hz)
      have hlp : 0 < (oth (pre.map tl)).length := List.length_pos_iff.2 hne
      have HS2 : Hid (Lib.trimRightS (oth (pre.map tl)).dropLast blk ++ [32] ++ Lib.trimLeftS (tl x) blk = oth ((pre ++ [x]).map tl)) := by
        show _ = _
        rw [HST.out]; unfold ostep; rw [if_neg hm]
      clear hop hne HST hm
      obtain ⟨LL, hLL⟩ : ∃ LL, LL = oth (pre.map tl) := ⟨_, rfl⟩
      rw [← hLL] at hox hx2 hlp HS2
      clear hLL
      obtain ⟨g, cap, hv⟩ : ∃ g cap, v = .slice (some ⟨g, 0, none⟩) LL.length cap := by
        rcases hox.row.2 with ⟨_, h0⟩ | ⟨g, cap, cur, hv, _⟩
        · omega
        · exact ⟨g, cap, hv⟩
      subst hv
      have hcap : LL.length ≤ cap ∧ cap ≤ maxLen := by
        rcases hox.row.2 with ⟨_, h0⟩ | ⟨g', cap', cur, hv, _, _, h1, h2, _⟩
        · omega
        · cases hv; exact ⟨h1, h2⟩
      have hby : Lib.BytesAt W (some ⟨g, 0, none⟩) (LL.length - 1) LL.dropLast := by rw [List.dropLast_eq_take]; exact row_bytes hox.row (by omega)
      have ktr := trimR_any (some ⟨g, 0, none⟩) (LL.length - 1) cap LL.dropLast W (by simp) (by omega) (by have := hcap.2; unfold maxLen at this; omega) hby
      have hk1 := trimR_le LL.dropLast blk
      rw [List.length_dropLast] at hk1
      have hrow1 := fun W1 hb => trim_row (W1 := W1) hox.row hb
      obtain ⟨T1, hT1⟩ : ∃ T1, T1 = Lib.trimRightS LL.dropLast blk := ⟨_, rfl⟩
      rw [← hT1] at ktr HS2 hk1 hrow1
      obtain ⟨k1, hk1e⟩ : ∃ k1, k1 = T1.length := ⟨_, rfl⟩
      rw [← hk1e] at ktr
      clear hT1 hby
      obtain ⟨n1, hn1⟩ : ∃ n1, n1 + 1 = LL.length := ⟨LL.length - 1, by omega⟩
      rw [show LL.length - 1 = n1 by omega] at ktr
      have HK1 := hide' hk1e
      have HRW := hide' hrow1
      have hw2 : (LL.length : Int) - 1 = n1 := by omega
      clear hk1e hrow1
      gi_wp2_with (refine ⟨trivial, ?_⟩; gi_at_call 33; refine (CallsIn.inRound l (callsIn_wide.2 ktr)).mono ?_)
      rintro e W1 ⟨rfl, hb1⟩
      obtain ⟨bx1, hox1, hst1⟩ := hox.put (W2 := W1) (v' := .slice (some ⟨g, 0, none⟩) k1 cap) (l' := T1) hR1 hb1 ⟨rfl, rfl, rfl, Nat.le_refl _, fun _ _ _ => rfl⟩ (by rw [HK1.out]; exact HRW.out W1 hb1)
      have hbc1 := bx1.cell
      have hbf1 := bx1.frozen
      have hbc1' := hox1.box.cell
      have hzs : (W1.setCell ⟨w.heap.size, 0, none⟩ (.slice (some ⟨g, 0, none⟩) k1 cap)).heap.size = W1.heap.size := by simp [World.setCell]
      have hnc := new_cell (W1.setCell ⟨w.heap.size, 0, none⟩ (.slice (some ⟨g, 0, none⟩) k1 cap)) (.int .u8 32) 5
      rw [hzs] at hnc
      have hrw1 := (hox1.row.alloc (.cells #[.int .u8 32] 5))
      have hrm1 : W0.heap.size ≤ ((W1.setCell ⟨w.heap.size, 0, none⟩ (.slice (some ⟨g, 0, none⟩) k1 cap)).alloc (.cells #[.int .u8 32] 5)).heap.size := by have := hox1.room; rw [World.size_alloc]; omega
      have hba := (Below.refl (W1.setCell ⟨w.heap.size, 0, none⟩ (.slice (some ⟨g, 0, none⟩) k1 cap)).heap.size (W1.setCell ⟨w.heap.size, 0, none⟩ (.slice (some ⟨g, 0, none⟩) k1 cap))).alloc (Nat.le_refl _) (.cells #[.int .u8 32] 5)
      have HNC := hide' hnc
      clear HRW ktr hbc hcc hn1 hw2 hzs hnc
      gi_wp2_with (gi_at_builtin; refine wpListIn_append_own _ rfl _ _ 39 rfl W0.heap.size 5 i0 (.int .u8 0) 1 1 Tryd.underlying39 hi hz0 hz1 hz2 rfl (by decide) _ _ _ rfl hrw1 ⟨W1.heap.size, 0, none⟩ 1 1 [.int .u8 32] rfl rfl HNC.out (by intro u hu; simp at hu; subst hu; rfl) (by unfold maxLen; omega) (by omega) hrm1 ?_)
      intro v2 W4 hown2 hgrow2 _
      have e2 : Lib.byteCells (T1 ++ [32]) = Lib.byteCells T1 ++ [.int .u8 32] := by simp [Lib.byteCells]
      rw [← e2] at hown2
      obtain ⟨g2, cap2, rfl⟩ := ownsRow_succ hown2
      have hown2' : W4.ownsRow W0.heap.size 5 1 (.slice (some ⟨g2, 0, none⟩) (T1.length + 1) cap2) (T1 ++ [32]).length (Lib.byteCells (T1 ++ [32])) := by rw [List.length_append]; exact hown2
      obtain ⟨bx2, hox2, hst2⟩ := hox1.put hR1 hba hgrow2 hown2'
      have hst12 := hst1.t hst2
      have hbc2 := bx2.cell
      have hbf2 := bx2.frozen
      have ktl := fun w => trimL_any x w
      have hyl := trimL_le (tl x) blk
      rw [tl_len] at hyl
      obtain ⟨y, hy⟩ : ∃ y, y = mk (Lib.trimLeftS (tl x) blk) := ⟨_, rfl⟩
      have hyt : tl y = Lib.trimLeftS (tl x) blk := by rw [hy, tl_mk]
      rw [← hy] at ktl
      rw [← hyt] at HS2 hyl
      rw [tl_len] at hyl
      clear hy hyt hst1 hst2 hox1 hrw1 hrm1 hba hbc1 hbf1 hbc1' bx1 hgrow2 hown2 hown2' e2 hox HNC
      gi_wp2_with (refine ⟨trivial, ?_⟩; gi_at_call 34; refine (CallsIn.inRound l (callsIn_wide.2 (ktl _))).mono ?_)
      rintro e W5 ⟨rfl, hb5⟩
      obtain ⟨hox5, hst5⟩ := hox2.later hb5
      have hst15 := hst12.t hst5
      have hbc5 := hox5.box.cell
      have hl5 : (T1 ++ [32]).length + y.size ≤ 1000000000 := by simp; omega
      clear hox2 hst12 hst5 hb5 ktl bx2 hbc2 hbf2 hb1
      gi_wp2_with (gi_at_builtin; refine wpListIn_append_str _ rfl _ _ 39 9 rfl W0.heap.size 5 i0 Tryd.underlying39 Tryd.underlying9 hi hz0 hz1 hz2 _ _ _ rfl hox5.row y rfl (by unfold maxLen; omega) (by omega) hox5.room ?_)
      intro v' w2 hown' hgrow
      have e1 : Lib.byteCells (T1 ++ [32] ++ tl y) = Lib.byteCells (T1 ++ [32]) ++ Lib.strCells y := by simp [Lib.byteCells, Lib.strCells, tl]
      rw [← e1, ← tl_len, show T1.length + 1 + (tl y).length = (T1 ++ [32] ++ tl y).length by simp; omega, HS2.out] at hown'
      obtain ⟨ao, n', cap, rfl⟩ : ∃ ao n' cap, v' = .slice ao n' cap := by
        rcases hown'.2 with ⟨hv, _⟩ | ⟨g, cap, cur, hv, _⟩
        · exact ⟨_, _, _, hv⟩
        · exact ⟨_, _, _, hv⟩
      obtain ⟨bx, hox2, hst2⟩ := hox5.put hR1 (Below.refl _ _) hgrow hown'
      have hbc2 := bx.cell
      have hbf2 := bx.frozen
      have hcc2 := hox2.cnt.cell
      have hcf2 := hox2.cnt.frozen
      obtain ⟨hox3, hst3⟩ := hox2.count hR1 ((pre.length : Int) + 1) (pre ++ [x]).length (by simp)
      have hst4 := (hst15.t hst2).t hst3
      clear hst2 hst3 hgrow e1 hown' HS2
      gi_wp2
      exact ⟨hst4.2.from _, hst4.1, _, hox3⟩
  case done =>
    rintro D ys W hD hys ⟨v, hox⟩ hK
    have hn : ys.length = (jn (L.map tl)).length := by rw [← hys, List.length_map]
    rw [hys, hn, ← HM.out, ← HT.out] at hox
    have hbc := hox.box.cell
    have hcc := hox.cnt.cell
    have hbe := hox.below
    have hcv : (convert 39 9 v).run Tryd.prog W.drew = .ok (.string (mk t)) W.drew := row_str (W := W.drew) (R := W0.heap.size) (hox.row.kept (row := none) ⟨rfl, rfl, rfl, Nat.le_refl _, fun _ _ _ => rfl⟩ (by rcases hox.row.2 with ⟨rfl, _⟩ | ⟨g, cap, cur, rfl, _⟩; exact .inl rfl; exact .inr (by simp [Value.ownBlock])))
    have hK1 : W.drew.heap[D]? = some (.deferred (some [])) := hK
    have hbe1 : Below w.heap.size w W.drew := hbe.drew
    clear hn hys b1 b2 b3 hB0 hseq hK hox
    gi_wp2
    refine wpIn_region_any hmx ?_
    change wpAnyIn _ _ _ _ _ _ _ _ _ (World.drew _)
    refine wpAnyIn_ready (rs := [0, 2]) (by kernel_rfl) (by simp) ?_
    refine AllReadyIn.cons rfl (fun K hK => ?_) (AllReadyIn.cons rfl (fun K hK => ?_) AllReadyIn.nil)
    · go_simp
      refine hK _ _ ?_
      clear hK K
      refine wpAnyIn_ready (rs := [1, 2]) (by kernel_rfl) (by simp) ?_
      refine AllReadyIn.cons rfl (fun K hK => ?_) (AllReadyIn.cons rfl (fun K hK => ?_) AllReadyIn.nil)
      · go_simp
        refine hK _ _ ?_
        clear hK K
        refine wpAnyIn_ready (rs := [2, 3]) (by kernel_rfl) (by simp) ?_
        refine AllReadyIn.cons rfl (fun K hK => ?_) (AllReadyIn.cons rfl (fun K hK => ?_) AllReadyIn.nil)
        · go_simp
          refine hK _ _ ?_
          clear hK K
          refine wpAnyIn_ready (rs := [3]) (by kernel_rfl) (by simp) ?_
          refine AllReadyIn.cons rfl (fun K hK => ?_) AllReadyIn.nil
          go_simp
          refine hK _ _ ?_
          clear hK K
          refine wpAnyIn_ready (rs := [4]) (by kernel_rfl) (by simp) ?_
          refine AllReadyIn.cons rfl (fun K hK => ?_) AllReadyIn.nil
          go_simp
          refine hK _ _ ?_
          clear hK K
          refine wpAnyIn_done (by kernel_rfl) ?_ _
          gi_wp2
          refine ⟨by simp, .inl ⟨_, _, rfl, run_takeDeferred hK1, ?_⟩⟩
          exact ⟨_, results_tmp2 rfl _ _ _, rfl, hbe1.trans (belowK_b (w := W0) (by omega) W.drew D _ _ hD hK1 rfl rfl)⟩
        · go_simp
          refine hK _ _ ?_
          clear hK K
          refine wpAnyIn_ready (rs := [2]) (by kernel_rfl) (by simp) ?_
          refine AllReadyIn.cons rfl (fun K hK => ?_) AllReadyIn.nil
          go_simp
          refine hK _ _ ?_
          clear hK K
          refine wpAnyIn_ready (rs := [4]) (by kernel_rfl) (by simp) ?_
          refine AllReadyIn.cons rfl (fun K hK => ?_) AllReadyIn.nil
          go_simp
          refine hK _ _ ?_
          clear hK K
          refine wpAnyIn_done (by kernel_rfl) ?_ _
          gi_wp2
          refine ⟨by simp, .inl ⟨_, _, rfl, run_takeDeferred hK1, ?_⟩⟩
          exact ⟨_, results_tmp2 rfl _ _ _, rfl, hbe1.trans (belowK_b (w := W0) (by omega) W.drew D _ _ hD hK1 rfl rfl)⟩
      · go_simp
        refine hK _ _ ?_
        clear hK K
        refine wpAnyIn_ready (rs := [1]) (by kernel_rfl) (by simp) ?_
        refine AllReadyIn.cons rfl (fun K hK => ?_) AllReadyIn.nil
        go_simp
        refine hK _ _ ?_
        clear hK K
        refine wpAnyIn_ready (rs := [3]) (by kernel_rfl) (by simp) ?_
        refine AllReadyIn.cons rfl (fun K hK => ?_) AllReadyIn.nil
        go_simp
        refine hK _ _ ?_
        clear hK K
        refine wpAnyIn_ready (rs := [4]) (by kernel_rfl) (by simp) ?_
        refine AllReadyIn.cons rfl (fun K hK => ?_) AllReadyIn.nil
        go_simp
        refine hK _ _ ?_
        clear hK K
        refine wpAnyIn_done (by kernel_rfl) ?_ _
        gi_wp2
        refine ⟨by simp, .inl ⟨_, _, rfl, run_takeDeferred hK1, ?_⟩⟩
        exact ⟨_, results_tmp2 rfl _ _ _, rfl, hbe1.trans (belowK_b (w := W0) (by omega) W.drew D _ _ hD hK1 rfl rfl)⟩
    · go_simp
      refine hK _ _ ?_
      clear hK K
      refine wpAnyIn_ready (rs := [0]) (by kernel_rfl) (by simp) ?_
      refine AllReadyIn.cons rfl (fun K hK => ?_) AllReadyIn.nil
      go_simp
      refine hK _ _ ?_
      clear hK K
      refine wpAnyIn_ready (rs := [1]) (by kernel_rfl) (by simp) ?_
      refine AllReadyIn.cons rfl (fun K hK => ?_) AllReadyIn.nil
      go_simp
      refine hK _ _ ?_
      clear hK K
      refine wpAnyIn_ready (rs := [3]) (by kernel_rfl) (by simp) ?_
      refine AllReadyIn.cons rfl (fun K hK => ?_) AllReadyIn.nil
      go_simp
      refine hK _ _ ?_
      clear hK K
      refine wpAnyIn_ready (rs := [4]) (by kernel_rfl) (by simp) ?_
      refine AllReadyIn.cons rfl (fun K hK => ?_) AllReadyIn.nil
      go_simp
      refine hK _ _ ?_
      clear hK K
      refine wpAnyIn_done (by kernel_rfl) ?_ _
      gi_wp2
      refine ⟨by simp, .inl ⟨_, _, rfl, run_takeDeferred hK1, ?_⟩⟩
      exact ⟨_, results_tmp2 rfl _ _ _, rfl, hbe1.trans (belowK_b (w := W0) (by omega) W.drew D _ _ hD hK1 rfl rfl)⟩
  case stop =>
    rintro D c pre W _ _ h _
    exact h.elim
end Go.Proofs.YteleakbefebabaaDoor
