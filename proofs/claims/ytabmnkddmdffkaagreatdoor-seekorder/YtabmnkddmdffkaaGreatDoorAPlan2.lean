/- The contract of vfs.planted. -/
import Derived.Test.YtabmnkddmdffkaaGreatDoorAFits
namespace Go.Proofs.YtabmnkddmdffkaaGreatDoor
open Go.RowKit Go.Maps

theorem less_before : ∀ x y : Bs, Op.bytesLess x y = bytesBefore x y
  | [], [] => by simp [Op.bytesLess, bytesBefore]
  | _ :: _, [] => by simp [Op.bytesLess, bytesBefore]
  | [], _ :: _ => by simp [Op.bytesLess, bytesBefore]
  | x :: r, y :: s => by simp [Op.bytesLess, bytesBefore, less_before r s]
theorem mk_toList (p : Bs) : (mk p).toList = p := by rw [Lib.toList_data]
/-- a path behind another, as the program tests it -/
theorem leq_yes {p q : Bs} (h : bytesBefore q p = true) : Op.bytesLess (mk p).toList (mk q).toList = false ∧ ((mk p).toList == (mk q).toList) = false := by
  rw [mk_toList, mk_toList, less_before]
  exact ⟨before_asymm h, beq_eq_false_iff_ne.2 (before_ne h).symm⟩
theorem leq_no {p q : Bs} (h : bytesBefore q p = false) : (Op.bytesLess (mk p).toList (mk q).toList = true) ∨ (Op.bytesLess (mk p).toList (mk q).toList = false ∧ ((mk p).toList == (mk q).toList) = true) := by
  rw [mk_toList, mk_toList, less_before]
  rcases before_total p q with e | e | e
  · exact .inl e
  · rw [e]; exact .inr ⟨before_irrefl _, by simp⟩
  · rw [h] at e; cases e

def upDirN : Lk Nd → Bool
  | .rt => true
  | .is e => e.dir
  | _ => false
def fitN (T : Tr) (clk : Int) (n : Nv) : Bool := fitB1 clk n && upDirN (lookN T (parent n.path))
theorem fitN_nds (L : Ents) (clk : Int) (n : Nv) : fitN (nds L) clk n = fitB L clk n := by
  unfold fitN fitB
  rw [lookV_nd]
  cases lookV L (parent n.path) <;> rfl
def stepP (clk : Int) (st : Option (Bs × Tr)) (n : Nv) : Option (Bs × Tr) :=
  match st with
  | none => none
  | some (ah, T) => if bytesBefore ah n.path && fitN T clk n then some (n.path, put T n.path n.nd) else none
def plantR (clk : Int) (ns : List Nv) : Option (Bs × Tr) := ns.foldl (stepP clk) (some ([], []))
theorem stepP_none (clk : Int) (ns : List Nv) : ns.foldl (stepP clk) none = none := by
  induction ns with
  | nil => rfl
  | cons n r ih => exact ih
theorem plant_take {clk : Int} {ns : List Nv} {k : Nat} {n : Nv} (hn : ns[k]? = some n) : plantR clk (ns.take (k + 1)) = stepP clk (plantR clk (ns.take k)) n := by
  unfold plantR
  rw [List.take_add_one, List.foldl_append, hn]
  rfl
theorem plant_none {clk : Int} {ns : List Nv} {k : Nat} (h : plantR clk (ns.take k) = none) : plantR clk ns = none := by
  unfold plantR at h ⊢
  conv => lhs; rw [← List.take_append_drop k ns]
  rw [List.foldl_append, h, stepP_none]
def okTree (clk rm : Int) : Prop := 0 ≤ clk ∧ clk ≤ 1099511627776 ∧ 0 ≤ rm ∧ rm ≤ 1048576
instance (clk rm : Int) : Decidable (okTree clk rm) := by unfold okTree; infer_instance
/-- what is made of a tree: the error, or the tree -/
def newR (ns : List Nv) (clk rm : Int) : Er ⊕ Tr :=
  match lenR ns with
  | .ok => if okTree clk rm then match plantR clk ns with
      | none => .inl (.no 1)
      | some (_, T) => if rm < (weight T : Int) then .inl (.no 15) else .inr T
    else .inl (.no 1)
  | e => .inl e
/-- a node laid, while planting -/
theorem fs_lay {w w' : World} {A M : Nat} {L : Ents} {wt wt' clk rm : Int} {p : Bs} {e : En} (h : FsAt w A M L wt clk rm) (hd : ∀ x ∈ L, x.2.nd.data ≠ [] → ∀ g, x.2.dv.ownBlock = some g → g ≠ A ∧ g ≠ M) (hn : NodeAt w e) (hr : Rds w e.dv e.nd.data)
    (he : e.nd.data ≠ [] → ∀ g, e.dv.ownBlock = some g → g ≠ A ∧ g ≠ M) (hp : p.length ≤ 1000) (hf : Fb w' A M wt' clk rm) (hm : Mp w' M (put L p e)) (ht : Turn (Two A M) w w') : FsAt w' A M (put L p e) wt' clk rm := by
  refine ⟨hf, hm, fun x hx => ?_, fun x hx => ?_, h.srt.put p e, fun x hx => ?_⟩
  · rcases mem_put.1 hx with rfl | ⟨hx, _⟩
    · exact (ht.block _ hn.lt fun s => s.elim (node_ne hn h.fb) (node_ne_map hn h.mp)).trans hn
    · have q := h.nodes x hx
      exact (ht.block _ q.lt fun s => s.elim (node_ne q h.fb) (node_ne_map q h.mp)).trans q
  · rcases mem_put.1 hx with rfl | ⟨hx, _⟩
    · exact hr.kept ht.size fun hne g hg => ht.block g (rds_lt hr hne g hg) fun s => s.elim (he hne g hg).1 (he hne g hg).2
    · have q := h.rds x hx
      exact q.kept ht.size fun hne g hg => ht.block g (rds_lt q hne g hg) fun s => s.elim (hd x hx hne g hg).1 (hd x hx hne g hg).2
  · rcases mem_put.1 hx with rfl | ⟨hx, _⟩
    · exact hp
    · exact h.keys x hx
/-- behind planted: an error, or a file system -/
def PlAt (E : Addr) (clk rm : Int) (w : World) (r : Ending) (w' : World) (o : Er ⊕ Tr) : Prop :=
  Below w.heap.size w w' ∧ match o with
  | .inl k => ∃ v, r = .returned (.tuple #[.pointer none, v]) ∧ IsErr w' E v k ∧ k ≠ .ok
  | .inr T => ∃ G, r = .returned (.tuple #[.pointer (some ⟨G, 0, none⟩), .nilIface]) ∧ IsFs w' (fun i => w.heap.size ≤ i) G T clk rm

set_option maxHeartbeats 1000000 in
theorem planted_len (E : Addr) (v : Value) (ns : List Nv) (clk rm : Int) (w : World) (h : Nodes w v ns) (hl : lenR ns = .no 2) :
    Calls Tryz.prog 21 #[.agg #[v, .int .i64 clk, .int .i64 rm]] w fun r w' => PlAt E clk rm w r w' (.inl (.no 2)) := by
  have hb0 : Below w.heap.size w (w.alloc (.cells #[v, .int .i64 clk, .int .i64 rm] 24)) := (Below.refl _ _).alloc (Nat.le_refl _) _
  have q := lengths_any E v ns clk rm _ (h.below hb0)
  rw [hl] at q
  obtain ⟨a, cap, rfl⟩ := h.len
  generalize ns.length = n at *
  clear h hl
  go_enter Tryz.func21, Tryz.ntmps21
  go_wp2_with fail
  refine q.mono ?_
  rintro r w1 ⟨⟨v, rfl, b, rfl, hf⟩, hb1⟩
  go_wp2
  go_ret2
  exact ⟨hb0.trans (hb1.mono hb0.size), _, rfl, ⟨b, rfl, hf⟩, by simp⟩
set_option maxHeartbeats 2000000 in
theorem planted_arg (E : Addr) (v : Value) (ns : List Nv) (clk rm : Int) (w : World) (h : Nodes w v ns) (hl : lenR ns = .ok) (ho : ¬ okTree clk rm) :
    Calls Tryz.prog 21 #[.agg #[v, .int .i64 clk, .int .i64 rm]] w fun r w' => PlAt E clk rm w r w' (.inl (.no 1)) := by
  have hb0 : Below w.heap.size w (w.alloc (.cells #[v, .int .i64 clk, .int .i64 rm] 24)) := (Below.refl _ _).alloc (Nat.le_refl _) _
  have q := lengths_any E v ns clk rm _ (h.below hb0)
  rw [hl] at q
  obtain ⟨a, cap, rfl⟩ := h.len
  generalize ns.length = n at *
  have hbk := alloc_new w (.cells #[.slice a n cap, .int .i64 clk, .int .i64 rm] 24)
  clear h hl
  go_enter Tryz.func21, Tryz.ntmps21
  go_wp2_with fail
  refine q.mono ?_
  rintro r w1 ⟨⟨v, rfl, rfl⟩, hb1⟩
  have hbk1 := (hb1.block w.heap.size (by simp)).trans hbk
  have d0 : w1.cell? ⟨w.heap.size, 0, none⟩ = some (.slice a n cap) := by rw [Lib.cell_of_heap hbk1]; rfl
  have d1 : w1.cell? ⟨w.heap.size, 1, none⟩ = some (.int .i64 clk) := by rw [Lib.cell_of_heap hbk1]; rfl
  have d2 : w1.cell? ⟨w.heap.size, 2, none⟩ = some (.int .i64 rm) := by rw [Lib.cell_of_heap hbk1]; rfl
  have hB1 := hb0.trans (hb1.mono hb0.size)
  by_cases h1 : clk < 0
  · go_wp2
    go_ret2
    exact ⟨hB1.alloc hB1.size _, _, rfl, isErr_alloc w1 E 1 _, by simp⟩
  by_cases h2 : 1099511627776 < clk
  · go_wp2
    go_ret2
    exact ⟨hB1.alloc hB1.size _, _, rfl, isErr_alloc w1 E 1 _, by simp⟩
  by_cases h3 : rm < 0
  · go_wp2
    go_ret2
    exact ⟨hB1.alloc hB1.size _, _, rfl, isErr_alloc w1 E 1 _, by simp⟩
  have h4 : 1048576 < rm := by unfold okTree at ho; omega
  go_wp2
  go_ret2
  exact ⟨hB1.alloc hB1.size _, _, rfl, isErr_alloc w1 E 1 _, by simp⟩
end Go.Proofs.YtabmnkddmdffkaaGreatDoor
