/- Two variables that are one; the store of a law in memory; the law's alive. -/
import Derived.Test.YtillechackcbpaaApp
import Derived.Laws.StructEq
namespace Go.Proofs.Ytillechackcbpaa
open Go.RowKit Go.Maps

theorem var_fields : ((Try.prog.fieldsOf 36).toList.map fun f => (decide (f.name = "_"), f.type, f.offset)) = [(false, 9, 0), (false, 9, 1), (false, 3, 2), (false, 3, 3), (false, 3, 4)] := by kernel_rfl
theorem var_same (a b : ByteArray) (c d e : Int) (W : World) : (Op.equalIn 10000 36 (.agg #[.string a, .string b, .int .i64 c, .int .i64 d, .int .i64 e]) (.agg #[.string a, .string b, .int .i64 c, .int .i64 d, .int .i64 e])).run Try.prog W = .ok true W := by
  have q0 : (part 9 #[.string a, .string b, .int .i64 c, .int .i64 d, .int .i64 e] 0).run Try.prog W = .ok (.string a) W := by kernel_rfl
  have q1 : (part 9 #[.string a, .string b, .int .i64 c, .int .i64 d, .int .i64 e] 1).run Try.prog W = .ok (.string b) W := by kernel_rfl
  have q2 : (part 3 #[.string a, .string b, .int .i64 c, .int .i64 d, .int .i64 e] 2).run Try.prog W = .ok (.int .i64 c) W := by kernel_rfl
  have q3 : (part 3 #[.string a, .string b, .int .i64 c, .int .i64 d, .int .i64 e] 3).run Try.prog W = .ok (.int .i64 d) W := by kernel_rfl
  have q4 : (part 3 #[.string a, .string b, .int .i64 c, .int .i64 d, .int .i64 e] 4).run Try.prog W = .ok (.int .i64 e) W := by kernel_rfl
  have e1 : ∀ n, (Op.equalIn 9999 3 (.int .i64 n) (.int .i64 n)).run Try.prog W = .ok true W := fun n => by
    rw [run_equalIn_int W 9998 3 .i64 .i64 n n Try.underlying3]
    simp
  have e2 : ∀ n, (Op.equalIn 9999 9 (.string n) (.string n)).run Try.prog W = .ok true W := fun n => by
    rw [run_equalIn_string W 9998 9 n n Try.underlying9]
    simp
  rw [run_equalIn_struct W 9999 36 _ _ (by kernel_rfl) (by kernel_rfl)]
  have hf := var_fields
  generalize (Try.prog.fieldsOf 36).toList = l at hf
  have hl : l.length = 5 := by have := congrArg List.length hf; simpa using this
  obtain ⟨f0, f1, f2, f3, f4, rfl⟩ : ∃ f0 f1 f2 f3 f4, l = [f0, f1, f2, f3, f4] := by
    rcases l with _ | ⟨f0, _ | ⟨f1, _ | ⟨f2, _ | ⟨f3, _ | ⟨f4, _ | ⟨f5, r⟩⟩⟩⟩⟩⟩
    · simp at hl
    · simp at hl
    · simp at hl
    · simp at hl
    · simp at hl
    · exact ⟨_, _, _, _, _, rfl⟩
    · simp at hl
  simp only [List.map_cons, List.map_nil, List.cons.injEq, Prod.mk.injEq, decide_eq_false_iff_not, and_true] at hf
  obtain ⟨⟨n0, t0, o0⟩, ⟨n1, t1, o1⟩, ⟨n2, t2, o2⟩, ⟨n3, t3, o3⟩, ⟨n4, t4, o4⟩⟩ := hf
  simp [Op.eqFields, n0, t0, o0, n1, t1, o1, n2, t2, o2, n3, t3, o3, n4, t4, o4, q0, q1, q2, q3, q4, e1, e2]
theorem var_eql (a b : ByteArray) (c d e : Int) (W : World) : (binOp .eql 36 (.agg #[.string a, .string b, .int .i64 c, .int .i64 d, .int .i64 e]) (.agg #[.string a, .string b, .int .i64 c, .int .i64 d, .int .i64 e])).run Try.prog W = .ok (.bool true) W := by
  rw [run_eql_struct, var_same]; rfl
theorem var_neq (a b : ByteArray) (c d e : Int) (W : World) : (binOp .neq 36 (.agg #[.string a, .string b, .int .i64 c, .int .i64 d, .int .i64 e]) (.agg #[.string a, .string b, .int .i64 c, .int .i64 d, .int .i64 e])).run Try.prog W = .ok (.bool false) W := by
  rw [run_neq_struct, var_same]; rfl

/-- a store of the law's own: its blocks lie from B on, and nothing below has turned since w0 -/
structure Sw (B : Nat) (w0 w : World) (A : Nat) (L : Vs) : Prop where
  ex : ∃ m, St w A m L ∧ B ≤ A ∧ ∀ k, m = some k → B ≤ k
  below : Below B w0 w
theorem Sw.new (w : World) : Sw w.heap.size w (w.alloc (.cells #[.map none] 54)) w.heap.size [] :=
  ⟨⟨none, st_new w, Nat.le_refl _, fun _ e => (by cases e)⟩, below_alloc (Below.refl _ _) (Nat.le_refl _) _⟩
theorem Sw.more {B : Nat} {w0 w w' : World} {A : Nat} {L : Vs} (h : Sw B w0 w A L) (hB : B ≤ w0.heap.size) (hb : Below w.heap.size w w') : Sw B w0 w' A L := by
  obtain ⟨m, h1, h2, h3⟩ := h.ex
  exact ⟨⟨m, h1.below hb, h2, h3⟩, h.below.trans (hb.mono (Nat.le_trans hB h.below.size))⟩
theorem Sw.chg {B : Nat} {w0 w w' : World} {A : Nat} {m m' : Option Nat} {L' : Vs} (hb : Below B w0 w) (hB : B ≤ w0.heap.size) (h2 : B ≤ A) (h3 : ∀ k, m = some k → B ≤ k) (hc : Chg w w' A m m' L') : Sw B w0 w' A L' :=
  ⟨⟨m', hc.st, h2, fun k hk => (hc.own k hk).elim (h3 k) fun h => Nat.le_trans (Nat.le_trans hB hb.size) h⟩,
    hb.trans (hc.turn.below (Nat.le_trans hB hb.size) fun i hi => by rcases hi with rfl | hi; exact h2; exact h3 i hi)⟩
/-- cells of other types than a store's have not turned -/
def Kb (w w' : World) : Prop := ∀ (b : Nat) (cs : Array Value) (T : TypeId) (z : Nat × Nat), T ≠ 54 → w.heap[b]? = some (.cells cs T z) → w'.heap[b]? = some (.cells cs T z)
theorem Kb.trans {a b c : World} (h : Kb a b) (k : Kb b c) : Kb a c := fun i cs T z hT hi => k i cs T z hT (h i cs T z hT hi)
theorem Kb.of_below {w w' : World} (h : Below w.heap.size w w') : Kb w w' := fun b _ _ _ _ hb => (h.block b (Array.getElem?_eq_some_iff.1 hb).1).trans hb
theorem Chg.kb {w w' : World} {A : Nat} {m m' : Option Nat} {L L' : Vs} (h : St w A m L) (hc : Chg w w' A m m' L') : Kb w w' := fun b cs T z hT hb => by
  refine (hc.turn.block b (Array.getElem?_eq_some_iff.1 hb).1 fun hS => ?_).trans hb
  rcases hS with rfl | rfl
  · have := h.sb
    unfold Sb at this
    rw [this] at hb
    simp only [Option.some.injEq, Obj.cells.injEq] at hb
    exact hT hb.2.1.symm
  · obtain ⟨es, c, hm⟩ := Mp.isMap h.mp
    rw [hm] at hb
    cases hb
theorem sw_set {B : Nat} {w0 w : World} {A : Nat} {L : Vs} (h : Sw B w0 w A L) (hB : B ≤ w0.heap.size) (p v : Bs) (f o : Int) (hp : p.length ≤ 1000000) (hv : v.length ≤ 1000000) :
    Calls Try.prog 16 #[.pointer (some ⟨A, 0, none⟩), .string (mk p), .string (mk v), .int .i64 f, .int .i64 o] w fun r w' => r = .returned (.bool (setOk L p o)) ∧ Sw B w0 w' A (setL L p v f o) ∧ Kb w w' := by
  obtain ⟨m, h1, h2, h3⟩ := h.ex
  refine (set_any A m L p v f o w h1 hp hv).mono ?_
  rintro r w' ⟨rfl, m', hc⟩
  exact ⟨rfl, Sw.chg h.below hB h2 h3 hc, Chg.kb h1 hc⟩
theorem sw_app {B : Nat} {w0 w : World} {A : Nat} {L : Vs} (h : Sw B w0 w A L) (hB : B ≤ w0.heap.size) (p v : Bs) (o : Int) (hp : p.length ≤ 1000000) (hv : (getV L p).value.length + 1 + v.length ≤ 1000000) :
    Calls Try.prog 21 #[.pointer (some ⟨A, 0, none⟩), .string (mk p), .string (mk v), .int .i64 o] w fun r w' => r = .returned (.bool (setOk L p o)) ∧ Sw B w0 w' A (setL L p (appV L p v) (appF L p) o) ∧ Kb w w' := by
  obtain ⟨m, h1, h2, h3⟩ := h.ex
  refine (app_any A m L p v o w h1 hp hv).mono ?_
  rintro r w' ⟨rfl, m', hc⟩
  exact ⟨rfl, Sw.chg h.below hB h2 h3 hc, Chg.kb h1 hc⟩
theorem sw_get {B : Nat} {w0 w : World} {A : Nat} {L : Vs} (h : Sw B w0 w A L) (hB : B ≤ w0.heap.size) (p : Bs) (hp : p.length ≤ 1000000) :
    Calls Try.prog 13 #[.pointer (some ⟨A, 0, none⟩), .string (mk p)] w fun r w' => r = .returned (.tuple #[vV (getV L p), .bool (fnd L p).isSome]) ∧ Sw B w0 w' A L ∧ Below w.heap.size w w' := by
  obtain ⟨m, h1, h2, h3⟩ := h.ex
  refine (get_any A m L p w h1 hp).mono ?_
  rintro r w' ⟨rfl, hb⟩
  exact ⟨rfl, h.more hB hb, hb⟩
theorem sw_und {B : Nat} {w0 w : World} {A : Nat} {L : Vs} (h : Sw B w0 w A L) (hB : B ≤ w0.heap.size) (p : Bs) (o : Int) (hp : p.length ≤ 1000000) :
    Calls Try.prog 20 #[.pointer (some ⟨A, 0, none⟩), .string (mk p), .int .i64 o] w fun r w' => r = .returned (.bool (!held L p o)) ∧ Sw B w0 w' A (undL L p o) ∧ Kb w w' := by
  obtain ⟨m, h1, h2, h3⟩ := h.ex
  refine (und_any A m L p o w h1 hp).mono ?_
  rintro r w' ⟨rfl, hc⟩
  exact ⟨rfl, Sw.chg h.below hB h2 h3 hc, Chg.kb h1 hc⟩
def al1 : Vs := setL [] [97] [49] 1 3
def al2 : Vs := setL al1 [97] (appV al1 [97] [50]) (appF al1 [97]) 3
def al3 : Vs := setL al2 [97] [51] 1 2
theorem al_v : vV (getV al3 [97]) = .agg #[.string (mk [97]), .string (mk [49, 32, 50]), .int .i64 1, .int .i64 3, .int .i64 0] := by rfl
theorem alive_any (w : World) : Calls Try.prog 7 #[] w fun r w' => r = .returned (.bool true) ∧ Below w.heap.size w w' := by
  have q1 : Hid (∀ W, Sw w.heap.size w W w.heap.size [] → Calls Try.prog 16 #[.pointer (some ⟨w.heap.size, 0, none⟩), .string ⟨#[97]⟩, .string ⟨#[49]⟩, .int .i64 1, .int .i64 3] W fun r w' => r = .returned (.bool true) ∧ Sw w.heap.size w w' w.heap.size al1 ∧ Kb W w') := fun W h => sw_set h (Nat.le_refl _) [97] [49] 1 3 (by decide) (by decide)
  have q2 : Hid (∀ W, Sw w.heap.size w W w.heap.size al1 → Calls Try.prog 21 #[.pointer (some ⟨w.heap.size, 0, none⟩), .string ⟨#[97]⟩, .string ⟨#[50]⟩, .int .i64 3] W fun r w' => r = .returned (.bool true) ∧ Sw w.heap.size w w' w.heap.size al2 ∧ Kb W w') := fun W h => sw_app h (Nat.le_refl _) [97] [50] 3 (by decide) (by decide)
  have q3 : Hid (∀ W, Sw w.heap.size w W w.heap.size al2 → Calls Try.prog 16 #[.pointer (some ⟨w.heap.size, 0, none⟩), .string ⟨#[97]⟩, .string ⟨#[51]⟩, .int .i64 1, .int .i64 2] W fun r w' => r = .returned (.bool false) ∧ Sw w.heap.size w w' w.heap.size al3 ∧ Kb W w') := fun W h => sw_set h (Nat.le_refl _) [97] [51] 1 2 (by decide) (by decide)
  have q4 : Hid (∀ W, Sw w.heap.size w W w.heap.size al3 → Calls Try.prog 13 #[.pointer (some ⟨w.heap.size, 0, none⟩), .string ⟨#[97]⟩] W fun r w' => r = .returned (.tuple #[.agg #[.string ⟨#[97]⟩, .string ⟨#[49, 32, 50]⟩, .int .i64 1, .int .i64 3, .int .i64 0], .bool true]) ∧ Sw w.heap.size w w' w.heap.size al3 ∧ Below W.heap.size W w') := fun W h => sw_get h (Nat.le_refl _) [97] (by decide)
  have ve := fun W => var_eql ⟨#[97]⟩ ⟨#[49, 32, 50]⟩ 1 3 0 W
  go_enter Try.func7, Try.ntmps7
  go_wp2_with fail
  refine (new_any w).mono ?_
  rintro r w1 ⟨rfl, rfl⟩
  go_wp2_with fail
  refine (q1.out _ (Sw.new w)).mono ?_
  rintro r w2 ⟨rfl, h2, _⟩
  go_wp2_with fail
  refine (q2.out _ h2).mono ?_
  rintro r w3 ⟨rfl, h3, _⟩
  go_wp2_with fail
  refine (q3.out _ h3).mono ?_
  rintro r w4 ⟨rfl, h4, _⟩
  go_wp2_with fail
  refine (q4.out _ h4).mono ?_
  rintro r w5 ⟨rfl, h5, _⟩
  have h5b := hide' h5.below
  clear h2 h3 h4 h5
  go_wp2
  go_ret
  exact ⟨rfl, below_alloc h5b.out (Nat.le_refl _) _⟩
end Go.Proofs.Ytillechackcbpaa
