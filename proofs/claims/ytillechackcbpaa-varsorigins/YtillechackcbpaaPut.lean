/- The contracts of drop, lay and put. -/
import Derived.Test.YtillechackcbpaaFind
namespace Go.Proofs.Ytillechackcbpaa
open Go.RowKit Go.Maps

theorem Turn.setCell {S : Nat → Prop} {w w' : World} (h : Turn S w w') {a : Addr} (ha : S a.block ∨ w.heap.size ≤ a.block) (v : Value) : Turn S w (w'.setCell a v) :=
  ⟨h.os, h.tape, h.output, Nat.le_trans h.size (by simp), fun k hk hn => (Below.heap_setCell _ _ _ _ (fun e => by rcases ha with h1 | h1; exact hn (e ▸ h1); omega)).trans (h.block k hk hn)⟩
/-- what a change of a store leaves: the store, its own blocks alone turned, and the map's block its own -/
structure Chg (w w' : World) (A : Nat) (m m' : Option Nat) (L : Vs) : Prop where
  st : St w' A m' L
  turn : Turn (Ow A m) w w'
  own : ∀ k, m' = some k → m = some k ∨ w.heap.size ≤ k
theorem Chg.same {w w' : World} {A : Nat} {m : Option Nat} {L : Vs} (h : St w A m L) (hb : Below w.heap.size w w') : Chg w w' A m m L :=
  ⟨h.below hb, Turn.of_below hb, fun _ e => .inl e⟩
theorem Chg.after {w w1 w' : World} {A : Nat} {m m' : Option Nat} {L : Vs} (hb : Below w.heap.size w w1) (h : Chg w1 w' A m m' L) : Chg w w' A m m' L :=
  ⟨h.st, (Turn.of_below hb).trans' h.turn, fun k e => (h.own k e).imp id fun h1 => Nat.le_trans hb.size h1⟩
theorem Chg.then {w w1 w' : World} {A : Nat} {m m' : Option Nat} {L : Vs} (h : Chg w w1 A m m' L) (hb : Below w1.heap.size w1 w') : Chg w w' A m m' L :=
  ⟨h.st.below hb, h.turn.trans' (Turn.of_below hb), h.own⟩
theorem Chg.trans {w w1 w' : World} {A : Nat} {m m1 m' : Option Nat} {L L' : Vs} (h : Chg w w1 A m m1 L) (k : Chg w1 w' A m1 m' L') : Chg w w' A m m' L' :=
  ⟨k.st, h.turn.trans k.turn (fun i hi => by
    rcases hi with rfl | hi
    · exact .inl (.inl rfl)
    · exact (h.own i hi).imp .inr id), fun i hi => by
    rcases k.own i hi with h1 | h1
    · exact h.own i h1
    · exact .inr (Nat.le_trans h.turn.size h1)⟩

/-- at the operation: delete(t.byName, p) -/
theorem wpList_del (w : World) {ops : Array Oper} {rest : List Oper} {o : Oper} {a : Act} {Q : Exit → Act → World → Prop} (hg : o.guard = none) (m x : Operand) (hop : o.op = Op.call { callee := Callee.builtin Builtin.delete, args := #[m, x], argTypes := #[50, 9] })
    (M : Nat) (L : Vs) (hm : a.eval m = .map (some M)) (h : Mp w M L) (p : Bs) (hp : p.length ≤ maxLen) (hx : a.eval x = .string (mk p))
    (hK : ∀ w', Mp w' M (del L p) → w.grownBy w' (some M) → wpList Try.prog ops Q rest (a.put o.dst (.tuple #[])) w') : wpList Try.prog ops Q (o :: rest) a w := by
  refine wpList_plain hg fun K' hK' => ?_
  obtain ⟨w', hrun, r1, r2⟩ := h.del p hp o.type
  unfold Oper.wp
  simp [execOp, hop, resolve, invoke, builtin, hm, hx, hrun, Result.andThen]
  exact hK' _ _ (hK w' r1 r2)
theorem St.put {w' : World} {A M : Nat} {L : Vs} {p : Bs} {v : Vr} (hA : Sb w' A (some M)) (hM : Mp w' M (put L p v)) (srt : Srt L) (nm : ∀ e ∈ L, e.2.name = e.1) (len : ∀ e ∈ L, e.1.length ≤ 1000000 ∧ e.2.value.length ≤ 1000000) (hc : (put L p v).length ≤ 1000) (hn : v.name = p) (h1 : p.length ≤ 1000000) (h2 : v.value.length ≤ 1000000) : St w' A (some M) (put L p v) :=
  ⟨hA, hM, srt.put p v, fun e he => by
    rcases mem_put.1 he with rfl | he
    · exact hn
    · exact nm e he.1, fun e he => by
    rcases mem_put.1 he with rfl | he
    · exact ⟨h1, h2⟩
    · exact len e he.1, hc⟩
theorem drop_any (A : Nat) (m : Option Nat) (L : Vs) (p : Bs) (w : World) (h : St w A m L) (hp : p.length ≤ maxLen) :
    Calls Try.prog 44 #[.pointer (some ⟨A, 0, none⟩), .string (mk p)] w fun r w' => r = .returned (.tuple #[]) ∧ Chg w w' A m m (del L p) := by
  have c0 := h.sb.c0
  cases m with
  | none =>
    have hd := fun ty => nil_del w p hp ty
    have hL : L = [] := h.mp
    have hE : St w A none (del L p) := by rw [hL]; rw [hL] at h; exact h
    clear h hL
    go_enter Try.func44, Try.ntmps44
    go_wp2
    go_end0
    exact ⟨rfl, Chg.same hE (Below.refl _ _)⟩
  | some M =>
    have hM : Mp w M L := h.mp
    have hne := h.ne M rfl
    have H := hide' h
    clear h
    go_enter Try.func44, Try.ntmps44
    go_wp2_with (at_delete; refine wpList_del _ rfl _ _ rfl M L rfl hM p hp rfl ?_; intro w3 hm3 hg3)
    go_end0
    have hs := H.out
    refine ⟨rfl, ⟨⟨(hg3.block A hs.sb.lt (fun e => hne (Option.some.inj e).symm)).trans hs.sb, hm3, hs.srt.del p, fun e he => hs.nm e (mem_del.1 he).1, fun e he => hs.len e (mem_del.1 he).1, Nat.le_trans (del_length_le _ _) hs.cnt⟩, Turn.of_grown hg3 fun k e => .inr e, fun k e => .inl e⟩⟩
theorem eq_map (M : Nat) (w : World) : (binOp .eql 50 (.map (some M)) (.map none)).run Try.prog w = .ok (.bool false) w := by kernel_rfl
theorem make_map (w : World) : (Instr.makeMap 50 none).run Try.prog w = .ok (.map (some w.heap.size)) (w.alloc (.map #[] 0)) := rfl
theorem eq_nil (w : World) : (binOp .eql 50 (.map none) (.map none)).run Try.prog w = .ok (.bool true) w := by kernel_rfl
set_option maxHeartbeats 1000000 in
theorem put_no (A : Nat) (m : Option Nat) (L : Vs) (v : Vr) (w : World) (h : St w A m L) (hp : v.name.length ≤ 1000000) (hf : fnd L v.name = none) (hc : 1000 ≤ L.length) :
    Calls Try.prog 34 #[.pointer (some ⟨A, 0, none⟩), vV v] w fun r w' => r = .returned (.bool false) ∧ Below w.heap.size w w' := by
  obtain ⟨gn, gv, gf, go, ge⟩ := v
  simp only at hp hf
  have b1 : ∀ o, Below w.heap.size w (w.alloc o) := fun o => below_alloc (Below.refl _ _) (Nat.le_refl _) o
  have q := fun o => find_any A m L gn (w.alloc o) (h.below (b1 o)).sb (h.below (b1 o)).mp (by unfold maxLen; omega)
  rw [getV, hf] at q
  simp only [Option.getD, Option.isSome_none, vV, zeroVr] at q
  dsimp only [vV]
  have hk : ∀ (W : World), Below w.heap.size w W → W.cell? ⟨A, 0, none⟩ = some (.map m) ∧ ∀ ty, (Builtin.len_ #[50] ty #[.map m]).run Try.prog W = .ok (.int .i64 L.length) W := fun W hW => ⟨(h.below hW).sb.c0, fun ty => (h.below hW).mp.len ty⟩
  have k1 : (1000 : Int) ≤ L.length := by omega
  generalize mk gn = gn' at q ⊢
  generalize mk gv = gv' at q ⊢
  clear h
  go_enter Try.func34, Try.ntmps34
  go_wp2_with fail
  refine (q _).mono ?_
  rintro r w1 ⟨rfl, hb1⟩
  have hb2 : ∀ o, Below w.heap.size w (w1.alloc o) := fun o => below_alloc ((b1 _).trans (hb1.mono (b1 _).size)) (Nat.le_refl _) o
  have hk2 := fun o => (hk _ (hb2 o)).1
  have hk3 := fun o => (hk _ (hb2 o)).2
  clear hk
  go_wp2
  go_ret
  exact ⟨rfl, hb2 _⟩
set_option maxRecDepth 100000 in
set_option maxHeartbeats 1000000 in
theorem lay_some (A M : Nat) (L : Vs) (v : Vr) (w : World) (h : St w A (some M) L) (hp : v.name.length ≤ 1000000) (hv : v.value.length ≤ 1000000) (hf : (fnd L v.name).isSome = true ∨ L.length < 1000) :
    Calls Try.prog 22 #[.pointer (some ⟨A, 0, none⟩), vV v] w fun r w' => r = .returned (.tuple #[]) ∧ Chg w w' A (some M) (some M) (put L v.name v) := by
  have hc : (put L v.name v).length ≤ 1000 := by
    rw [put_length]
    have := del_length h.srt v.name
    have hcn := h.cnt
    cases hx : fnd L v.name with
    | none => rw [hx] at hf this; simp at hf; simp only at this; omega
    | some e => rw [hx] at this; simp only at this; omega
  have hne := h.ne M rfl
  have hLc := h.cnt
  obtain ⟨gn, gv, gf, go, ge⟩ := v
  simp only at hp hf hc hv ⊢
  have b1 : ∀ o, Below w.heap.size w (w.alloc o) := fun o => below_alloc (Below.refl _ _) (Nat.le_refl _) o
  have c1 := fun o => (h.below (b1 o)).sb.c0
  have H := hide' h
  have hU : ∀ W : World, Below w.heap.size w W → ∃ W', (Instr.mapUpdate 50 (.map (some M)) (.string (mk gn)) (vV ⟨gn, gv, gf, go, ge⟩)).run Try.prog W = .ok () W' ∧ Chg w W' A (some M) (some M) (put L gn ⟨gn, gv, gf, go, ge⟩) := by
    intro W hW
    have hs := H.out.below hW
    have hMW : Mp W M L := hs.mp
    obtain ⟨W', hr, h1, h2⟩ := hMW.put (by omega) gn (by unfold maxLen; omega) ⟨gn, gv, gf, go, ge⟩
    exact ⟨W', hr, Chg.after hW ⟨St.put ((h2.block A hs.sb.lt (fun e => hne (Option.some.inj e).symm)).trans hs.sb) h1 hs.srt hs.nm hs.len hc rfl hp hv, Turn.of_grown h2 fun k e => .inr e, fun k e => .inl e⟩⟩
  clear h hf
  dsimp only [vV] at hU ⊢
  generalize hP : put L gn ⟨gn, gv, gf, go, ge⟩ = L' at hU ⊢
  clear hP hc
  generalize mk gn = gn' at hU ⊢
  generalize mk gv = gv' at hU ⊢
  have B1 := hide' b1
  have HU := hide' hU
  have en := eq_map M
  clear hU b1
  go_enter Try.func22, Try.ntmps22
  go_wp2
  refine wp_region_classX [7] (C := fun W => W.cell? ⟨A, 0, none⟩ = some (.map (some M)) ∧ Bx W w.heap.size gn' gv' gf go ge) (by kernel_rfl) ?_
  have hC : (w.alloc (.cells #[.string gn', .string gv', .int .i64 gf, .int .i64 go, .int .i64 ge] 36)).drew.cell? ⟨A, 0, none⟩ = some (.map (some M)) ∧ Bx (w.alloc (.cells #[.string gn', .string gv', .int .i64 gf, .int .i64 go, .int .i64 ge] 36)).drew w.heap.size gn' gv' gf go ge := ⟨c1 _, heap_alloc_new w _⟩
  (refine wpAnyX_take (i := 0) (v := ?_) hC rfl (by kernel_rfl) (by kernel_rfl) (by kernel_rfl) (by kernel_rfl) (fun _ _ _ h => h) (Or.inl ⟨by kernel_rfl, ?_⟩) ?_; rotate_left; (intro w hc; have y0 := hc.1; have k0 := hc.2.c0; have k1 := hc.2.c1; have k2 := hc.2.c2; have k3 := hc.2.c3; have k4 := hc.2.c4; clear hc; go_simp; try with_reducible rfl))
  (refine wpAnyX_take (i := 1) (v := ?_) hC rfl (by kernel_rfl) (by kernel_rfl) (by kernel_rfl) (by kernel_rfl) (fun _ _ _ h => h) (Or.inl ⟨by kernel_rfl, ?_⟩) ?_; rotate_left; (intro w hc; have y0 := hc.1; have k0 := hc.2.c0; have k1 := hc.2.c1; have k2 := hc.2.c2; have k3 := hc.2.c3; have k4 := hc.2.c4; clear hc; go_simp; try with_reducible rfl))
  (refine wpAnyX_take (i := 2) (v := ?_) hC rfl (by kernel_rfl) (by kernel_rfl) (by kernel_rfl) (by kernel_rfl) (fun _ _ _ h => h) (Or.inl ⟨by kernel_rfl, ?_⟩) ?_; rotate_left; (intro w hc; have y0 := hc.1; have k0 := hc.2.c0; have k1 := hc.2.c1; have k2 := hc.2.c2; have k3 := hc.2.c3; have k4 := hc.2.c4; clear hc; go_simp; try with_reducible rfl))
  (refine wpAnyX_take (i := 3) (v := ?_) hC rfl (by kernel_rfl) (by kernel_rfl) (by kernel_rfl) (by kernel_rfl) (fun _ _ _ h => h) (Or.inl ⟨by kernel_rfl, ?_⟩) ?_; rotate_left; (intro w hc; have y0 := hc.1; have k0 := hc.2.c0; have k1 := hc.2.c1; have k2 := hc.2.c2; have k3 := hc.2.c3; have k4 := hc.2.c4; clear hc; go_simp; try with_reducible rfl))
  go_simp
  (refine wpAnyX_take (i := 4) (v := ?_) hC rfl (by kernel_rfl) (by kernel_rfl) (by kernel_rfl) (by kernel_rfl) (fun _ _ _ h => h) (Or.inl ⟨by kernel_rfl, ?_⟩) ?_; rotate_left; (intro w hc; have y0 := hc.1; have k0 := hc.2.c0; have k1 := hc.2.c1; have k2 := hc.2.c2; have k3 := hc.2.c3; have k4 := hc.2.c4; clear hc; go_simp; try with_reducible rfl))
  (refine wpAnyX_take (i := 5) (v := ?_) hC rfl (by kernel_rfl) (by kernel_rfl) (by kernel_rfl) (by kernel_rfl) (fun _ _ _ h => h) (Or.inl ⟨by kernel_rfl, ?_⟩) ?_; rotate_left; (intro w hc; have y0 := hc.1; have k0 := hc.2.c0; have k1 := hc.2.c1; have k2 := hc.2.c2; have k3 := hc.2.c3; have k4 := hc.2.c4; clear hc; go_simp; try with_reducible rfl))
  (refine wpAnyX_take (i := 6) (v := ?_) hC rfl (by kernel_rfl) (by kernel_rfl) (by kernel_rfl) (by kernel_rfl) (fun _ _ _ h => h) (Or.inl ⟨by kernel_rfl, ?_⟩) ?_; rotate_left; (intro w hc; have y0 := hc.1; have k0 := hc.2.c0; have k1 := hc.2.c1; have k2 := hc.2.c2; have k3 := hc.2.c3; have k4 := hc.2.c4; clear hc; go_simp; try with_reducible rfl))
  go_simp
  obtain ⟨W', hr, hch⟩ := HU.out (w.alloc (.cells #[.string gn', .string gv', .int .i64 gf, .int .i64 go, .int .i64 ge] 36)).drew (B1.out _).drew
  refine wpAnyX_one (i := 7) (by kernel_rfl) (wpOp_wanted rfl (by rfl) ?_)
  go_simp
  refine wpAnyX_done (by kernel_rfl) ?_ _
  go_wp2
  go_end0
  exact ⟨rfl, hch⟩
set_option maxRecDepth 100000 in
set_option maxHeartbeats 1000000 in
theorem lay_nil (A : Nat) (v : Vr) (w : World) (h : St w A none []) (hp : v.name.length ≤ 1000000) (hv : v.value.length ≤ 1000000) :
    Calls Try.prog 22 #[.pointer (some ⟨A, 0, none⟩), vV v] w fun r w' => r = .returned (.tuple #[]) ∧ ∃ m', Chg w w' A none m' (put [] v.name v) := by
  obtain ⟨gn, gv, gf, go, ge⟩ := v
  simp only at hp hv ⊢
  have b1 : ∀ o, Below w.heap.size w (w.alloc o) := fun o => below_alloc (Below.refl _ _) (Nat.le_refl _) o
  have H := hide' h
  have hU : ∀ (W : World) (M : Nat), Sb W A (some M) → Mp W M [] → M ≠ A → w.heap.size ≤ M → Turn (Ow A none) w W → ∃ W', (Instr.mapUpdate 50 (.map (some M)) (.string (mk gn)) (vV ⟨gn, gv, gf, go, ge⟩)).run Try.prog W = .ok () W' ∧ Chg w W' A none (some M) (put [] gn ⟨gn, gv, gf, go, ge⟩) := by
    intro W M hA hMW hne hlo hT
    obtain ⟨W', hr, h1, h2⟩ := hMW.put (by simp) gn (by unfold maxLen; omega) ⟨gn, gv, gf, go, ge⟩
    have hs := H.out
    refine ⟨W', hr, St.put ((h2.block A hA.lt (fun e => hne (Option.some.inj e).symm)).trans hA) h1 hs.srt hs.nm hs.len (by simp [put, ins, del]) rfl hp hv, ?_, fun k e => .inr (by cases e; exact hlo)⟩
    exact hT.trans (Turn.of_grown (S := fun k => k = M) h2 fun k e => (Option.some.inj e).symm) fun i hi => .inr (by rw [hi]; exact hlo)
  have hA := h.sb.lt
  have hAc : ∀ W : World, Below w.heap.size w W → Sb W A none := fun W hW => (h.below hW).sb
  clear h
  dsimp only [vV] at hU ⊢
  generalize hP : put [] gn (Vr.mk gn gv gf go ge) = L' at hU ⊢
  clear hP
  generalize mk gn = gn' at hU ⊢
  generalize mk gv = gv' at hU ⊢
  have r1 := fun o => (hAc _ (b1 o)).c0
  have rz := fun o => (hAc _ (b1 o)).fz 0
  have en := eq_nil
  have R3 := hide' b1
  have RA := hide' hAc
  have HU := hide' hU
  clear hU b1 hAc
  have mm := make_map
  have hA1 : ∀ o, A < (w.alloc o).heap.size := fun o => Nat.lt_of_lt_of_le hA (R3.out o).size
  have c3 : ∀ o, ((w.alloc o).alloc (.map #[] 0)).cell? ⟨A, 0, none⟩ = some (.map none) := fun o => (World.cell?_of_block (a := ⟨A, 0, none⟩) (Below.heap_alloc _ _ _ (hA1 o))).trans (r1 o)
  have z3 : ∀ o, ((w.alloc o).alloc (.map #[] 0)).frozen? ⟨A, 0, none⟩ = false := fun o => (World.frozen?_of_block (a := ⟨A, 0, none⟩) (Below.heap_alloc _ _ _ (hA1 o))).trans (rz o)
  have HA := hide' (And.intro hA hA1)
  clear hA hA1
  go_enter Try.func22, Try.ntmps22
  go_wp2
  obtain ⟨hA, hA1⟩ := HA.out
  have f1 : ∀ o, Sb (((w.alloc o).alloc (.map #[] 0)).setCell ⟨A, 0, none⟩ (.map (some (w.heap.size + 1)))) A (some (w.heap.size + 1)) := fun o => by
    have h1 : Sb ((w.alloc o).alloc (.map #[] 0)) A none := (Below.heap_alloc _ _ _ (hA1 o)).trans (RA.out _ (R3.out o))
    exact set_row h1 0 _
  have hMA : w.heap.size + 1 ≠ A := by omega
  have hs1 : w.heap.size ≤ w.heap.size + 1 := by omega
  have f2 : ∀ o, Mp (((w.alloc o).alloc (.map #[] 0)).setCell ⟨A, 0, none⟩ (.map (some (w.heap.size + 1)))) (w.heap.size + 1) [] := fun o => by
    have h1 := Mp.made (w.alloc o)
    rw [World.size_alloc] at h1
    exact h1.kept (Below.heap_setCell _ _ _ _ hMA)
  have f3 : Bx (((w.alloc (.cells #[.string gn', .string gv', .int .i64 gf, .int .i64 go, .int .i64 ge] 36)).alloc (.map #[] 0)).setCell ⟨A, 0, none⟩ (.map (some (w.heap.size + 1)))) w.heap.size gn' gv' gf go ge := by
    have h1 : Bx (w.alloc (.cells #[.string gn', .string gv', .int .i64 gf, .int .i64 go, .int .i64 ge] 36)) w.heap.size gn' gv' gf go ge := heap_alloc_new w _
    exact (Below.heap_setCell _ _ _ _ (fun e => by have e' : w.heap.size = A := e; omega)).trans ((Below.heap_alloc _ _ _ h1.lt).trans h1)
  have f4 : ∀ o, Turn (Ow A none) w (((w.alloc o).alloc (.map #[] 0)).setCell ⟨A, 0, none⟩ (.map (some (w.heap.size + 1)))) := fun o => ((Turn.of_below (R3.out o)).alloc _).setCell (.inl (.inl rfl)) _
  have g1 := f1 (.cells #[.string gn', .string gv', .int .i64 gf, .int .i64 go, .int .i64 ge] 36)
  have g2 := f2 (.cells #[.string gn', .string gv', .int .i64 gf, .int .i64 go, .int .i64 ge] 36)
  have g4 := f4 (.cells #[.string gn', .string gv', .int .i64 gf, .int .i64 go, .int .i64 ge] 36)
  clear f1 f2 f4 c3 z3 r1 rz mm hA1 R3 RA en
  generalize ((w.alloc (.cells #[.string gn', .string gv', .int .i64 gf, .int .i64 go, .int .i64 ge] 36)).alloc (.map #[] 0)).setCell ⟨A, 0, none⟩ (.map (some (w.heap.size + 1))) = W6 at g1 g2 f3 g4 ⊢
  generalize w.heap.size + 1 = M at g1 g2 hMA hs1 ⊢
  refine wp_region_classX [7] (C := fun W => W.cell? ⟨A, 0, none⟩ = some (.map (some M)) ∧ Bx W w.heap.size gn' gv' gf go ge) (by kernel_rfl) ?_
  have hC : W6.drew.cell? ⟨A, 0, none⟩ = some (.map (some M)) ∧ Bx W6.drew w.heap.size gn' gv' gf go ge := ⟨g1.c0, f3⟩
  (refine wpAnyX_take (i := 0) (v := ?_) hC rfl (by kernel_rfl) (by kernel_rfl) (by kernel_rfl) (by kernel_rfl) (fun _ _ _ h => h) (Or.inl ⟨by kernel_rfl, ?_⟩) ?_; rotate_left; (intro w hc; have y0 := hc.1; have k0 := hc.2.c0; have k1 := hc.2.c1; have k2 := hc.2.c2; have k3 := hc.2.c3; have k4 := hc.2.c4; clear hc; go_simp; try with_reducible rfl))
  (refine wpAnyX_take (i := 1) (v := ?_) hC rfl (by kernel_rfl) (by kernel_rfl) (by kernel_rfl) (by kernel_rfl) (fun _ _ _ h => h) (Or.inl ⟨by kernel_rfl, ?_⟩) ?_; rotate_left; (intro w hc; have y0 := hc.1; have k0 := hc.2.c0; have k1 := hc.2.c1; have k2 := hc.2.c2; have k3 := hc.2.c3; have k4 := hc.2.c4; clear hc; go_simp; try with_reducible rfl))
  (refine wpAnyX_take (i := 2) (v := ?_) hC rfl (by kernel_rfl) (by kernel_rfl) (by kernel_rfl) (by kernel_rfl) (fun _ _ _ h => h) (Or.inl ⟨by kernel_rfl, ?_⟩) ?_; rotate_left; (intro w hc; have y0 := hc.1; have k0 := hc.2.c0; have k1 := hc.2.c1; have k2 := hc.2.c2; have k3 := hc.2.c3; have k4 := hc.2.c4; clear hc; go_simp; try with_reducible rfl))
  (refine wpAnyX_take (i := 3) (v := ?_) hC rfl (by kernel_rfl) (by kernel_rfl) (by kernel_rfl) (by kernel_rfl) (fun _ _ _ h => h) (Or.inl ⟨by kernel_rfl, ?_⟩) ?_; rotate_left; (intro w hc; have y0 := hc.1; have k0 := hc.2.c0; have k1 := hc.2.c1; have k2 := hc.2.c2; have k3 := hc.2.c3; have k4 := hc.2.c4; clear hc; go_simp; try with_reducible rfl))
  go_simp
  (refine wpAnyX_take (i := 4) (v := ?_) hC rfl (by kernel_rfl) (by kernel_rfl) (by kernel_rfl) (by kernel_rfl) (fun _ _ _ h => h) (Or.inl ⟨by kernel_rfl, ?_⟩) ?_; rotate_left; (intro w hc; have y0 := hc.1; have k0 := hc.2.c0; have k1 := hc.2.c1; have k2 := hc.2.c2; have k3 := hc.2.c3; have k4 := hc.2.c4; clear hc; go_simp; try with_reducible rfl))
  (refine wpAnyX_take (i := 5) (v := ?_) hC rfl (by kernel_rfl) (by kernel_rfl) (by kernel_rfl) (by kernel_rfl) (fun _ _ _ h => h) (Or.inl ⟨by kernel_rfl, ?_⟩) ?_; rotate_left; (intro w hc; have y0 := hc.1; have k0 := hc.2.c0; have k1 := hc.2.c1; have k2 := hc.2.c2; have k3 := hc.2.c3; have k4 := hc.2.c4; clear hc; go_simp; try with_reducible rfl))
  (refine wpAnyX_take (i := 6) (v := ?_) hC rfl (by kernel_rfl) (by kernel_rfl) (by kernel_rfl) (by kernel_rfl) (fun _ _ _ h => h) (Or.inl ⟨by kernel_rfl, ?_⟩) ?_; rotate_left; (intro w hc; have y0 := hc.1; have k0 := hc.2.c0; have k1 := hc.2.c1; have k2 := hc.2.c2; have k3 := hc.2.c3; have k4 := hc.2.c4; clear hc; go_simp; try with_reducible rfl))
  go_simp
  obtain ⟨W', hr, hch⟩ := HU.out W6.drew M g1 g2 hMA hs1 g4.drew
  refine wpAnyX_one (i := 7) (by kernel_rfl) (wpOp_wanted rfl (by rfl) ?_)
  go_simp
  refine wpAnyX_done (by kernel_rfl) ?_ _
  go_wp2
  go_end0
  exact ⟨rfl, _, hch⟩
/-- can a variable of that name be laid? -/
def room (L : Vs) (p : Bs) : Bool := (fnd L p).isSome || decide (L.length < 1000)
def putIf (L : Vs) (v : Vr) : Vs := if room L v.name then put L v.name v else L
theorem lay_any (A : Nat) (m : Option Nat) (L : Vs) (v : Vr) (w : World) (h : St w A m L) (hp : v.name.length ≤ 1000000) (hv : v.value.length ≤ 1000000) (hr : room L v.name = true) :
    Calls Try.prog 22 #[.pointer (some ⟨A, 0, none⟩), vV v] w fun r w' => r = .returned (.tuple #[]) ∧ ∃ m', Chg w w' A m m' (putIf L v) := by
  unfold putIf
  rw [hr, if_pos rfl]
  simp only [room, Bool.or_eq_true, decide_eq_true_eq] at hr
  cases m with
  | some M =>
    refine (lay_some A M L v w h hp hv hr).mono ?_
    rintro r w' ⟨rfl, hb⟩
    exact ⟨rfl, _, hb⟩
  | none =>
    have hL : L = [] := h.mp
    subst hL
    exact lay_nil A v w h hp hv
set_option maxRecDepth 100000 in
set_option maxHeartbeats 1000000 in
theorem put_yes (A : Nat) (m : Option Nat) (L : Vs) (v : Vr) (w : World) (h : St w A m L) (hp : v.name.length ≤ 1000000) (hv : v.value.length ≤ 1000000) (hr : room L v.name = true) :
    Calls Try.prog 34 #[.pointer (some ⟨A, 0, none⟩), vV v] w fun r w' => r = .returned (.bool true) ∧ ∃ m', Chg w w' A m m' (putIf L v) := by
  have ql : Hid (∀ W, Below w.heap.size w W → Calls Try.prog 22 #[.pointer (some ⟨A, 0, none⟩), vV v] W fun r w' => r = .returned (.tuple #[]) ∧ ∃ m', Chg w w' A m m' (putIf L v)) := fun W hW => by
    refine (lay_any A m L v W (h.below hW) hp hv hr).mono ?_
    rintro r w' ⟨rfl, m', hc⟩
    exact ⟨rfl, m', Chg.after hW hc⟩
  obtain ⟨gn, gv, gf, go, ge⟩ := v
  simp only at hp hv hr
  have b1 : ∀ o, Below w.heap.size w (w.alloc o) := fun o => below_alloc (Below.refl _ _) (Nat.le_refl _) o
  have q := fun o => find_any A m L gn (w.alloc o) (h.below (b1 o)).sb (h.below (b1 o)).mp (by unfold maxLen; omega)
  have hk : ∀ (W : World), Below w.heap.size w W → W.cell? ⟨A, 0, none⟩ = some (.map m) ∧ ∀ ty, (Builtin.len_ #[50] ty #[.map m]).run Try.prog W = .ok (.int .i64 L.length) W := fun W hW => ⟨(h.below hW).sb.c0, fun ty => (h.below hW).mp.len ty⟩
  clear h
  have hd : (!(fnd L gn).isSome && decide ((1000 : Int) ≤ L.length)) = false := by
    simp only [room, Bool.or_eq_true, decide_eq_true_eq] at hr
    rcases hr with h1 | h1
    · rw [h1]; rfl
    · have : ¬ (1000 : Int) ≤ L.length := by omega
      simp [this]
  clear hr
  generalize (fnd L gn).isSome = fb at q hd
  generalize getV L gn = g at q
  obtain ⟨xn, xv, xf, xo, xe⟩ := g
  dsimp only [vV] at q ql ⊢
  generalize hP : putIf L (Vr.mk gn gv gf go ge) = L' at ql ⊢
  clear hP
  generalize mk gn = gn' at q ql ⊢
  generalize mk gv = gv' at q ql ⊢
  generalize mk xn = xn at q
  generalize mk xv = xv at q
  have rest : ∀ W : World, Below (w.alloc (.cells #[.string gn', .string gv', .int .i64 gf, .int .i64 go, .int .i64 ge] 36)).heap.size (w.alloc (.cells #[.string gn', .string gv', .int .i64 gf, .int .i64 go, .int .i64 ge] 36)) W → Bx W w.heap.size gn' gv' gf go ge ∧ Below w.heap.size w W := fun W hW => ⟨Bx.below (heap_alloc_new w _) hW, (b1 _).trans (hW.mono (b1 _).size)⟩
  go_enter Try.func34, Try.ntmps34
  go_wp2_with fail
  refine (q _).mono ?_
  rintro r w1 ⟨rfl, hb1⟩
  have hb2 := fun o => rest _ (below_alloc hb1 (Nat.le_refl _) o)
  have r1 := fun o => (hk _ (hb2 o).2).1
  have r4 := fun o => (hk _ (hb2 o).2).2
  have e0 := fun o => (hb2 o).1.c0
  have e1 := fun o => (hb2 o).1.c1
  have e2 := fun o => (hb2 o).1.c2
  have e3 := fun o => (hb2 o).1.c3
  have e4 := fun o => (hb2 o).1.c4
  have B2 := hide' fun o => (hb2 o).2
  clear rest hb2 hk q b1 hb1
  cases fb with
  | true =>
    clear hd
    go_wp2_with fail
    refine (ql.out _ (B2.out _)).mono ?_
    rintro r w2 ⟨rfl, hch⟩
    have HC := hide' hch
    clear hch
    go_wp2
    go_ret
    exact ⟨rfl, HC.out⟩
  | false =>
    have hd1 : ¬ (1000 : Int) ≤ L.length := by simpa using hd
    clear hd
    go_wp2_with fail
    refine (ql.out _ (B2.out _)).mono ?_
    rintro r w2 ⟨rfl, hch⟩
    have HC := hide' hch
    clear hch
    go_wp2
    go_ret
    exact ⟨rfl, HC.out⟩
theorem put_any (A : Nat) (m : Option Nat) (L : Vs) (v : Vr) (w : World) (h : St w A m L) (hp : v.name.length ≤ 1000000) (hv : v.value.length ≤ 1000000) :
    Calls Try.prog 34 #[.pointer (some ⟨A, 0, none⟩), vV v] w fun r w' => r = .returned (.bool (room L v.name)) ∧ ∃ m', Chg w w' A m m' (putIf L v) := by
  cases hr : room L v.name with
  | false =>
    unfold putIf
    rw [hr]
    simp only [room, Bool.or_eq_false_iff, decide_eq_false_iff_not, Option.isSome_eq_false_iff, Option.isNone_iff_eq_none] at hr
    refine (put_no A m L v w h hp hr.1 (by omega)).mono ?_
    rintro r w' ⟨rfl, hb⟩
    exact ⟨rfl, m, Chg.same h hb⟩
  | true => exact put_yes A m L v w h hp hv hr
end Go.Proofs.Ytillechackcbpaa
