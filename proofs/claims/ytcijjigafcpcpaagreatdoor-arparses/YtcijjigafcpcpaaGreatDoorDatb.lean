/- Rows of bytes that are written over; what depends on members' names, dates and bytes alone. -/
import Derived.Test.YtcijjigafcpcpaaGreatDoorRws
import Derived.Test.YtcijjigafcpcpaaGreatDoorWrite
import Derived.Test.YtcijjigafcpcpaaGreatDoorBig
namespace Go.Proofs.YtcijjigafcpcpaaGreatDoor
open Go.RowKit Go.Maps

/-- a slice of bytes in a row from S on, whatever bytes they are -/
def DatB (w : World) (S : Nat → Prop) (v : Value) : Prop :=
  v = .slice none 0 0 ∨ ∃ g n cap cur, v = .slice (some ⟨g, 0, none⟩) n cap ∧ S g ∧ w.heap[g]? = some (.cells cur 5 (0, 0)) ∧ n ≤ 1000000 ∧ ∀ j, j < n → ∃ x : UInt8, cur[j]? = some (.int .u8 (x.toNat : Nat))
theorem Dat.datB {w : World} {v : Value} {bs : Bs} {S : Nat → Prop} (h : Dat w v bs) (hg : ∀ g, v.ownBlock = some g → S g) (hl : bs.length ≤ 1000000) : DatB w S v := by
  rcases h with ⟨rfl, _⟩ | ⟨g, cap, cur, rfl, h1, h2, h3, h4, h5⟩
  · exact .inl rfl
  · refine .inr ⟨g, _, cap, cur, rfl, hg g rfl, h1, hl, fun j hj => ⟨bs[j], ?_⟩⟩
    have e : (Lib.byteCells bs)[j]? = some (.int .u8 (bs[j].toNat : Nat)) := by
      unfold Lib.byteCells
      rw [List.getElem?_map, List.getElem?_eq_getElem hj]
      rfl
    rw [← h5, List.getElem?_take_of_lt hj] at e
    simpa using e
theorem DatB.len {w : World} {S : Nat → Prop} {v : Value} (h : DatB w S v) : ∃ a n cap, v = .slice a n cap ∧ n ≤ 1000000 := by
  rcases h with rfl | ⟨g, n, cap, cur, rfl, _, _, h, _⟩
  · exact ⟨_, _, _, rfl, by omega⟩
  · exact ⟨_, _, _, rfl, h⟩
theorem DatB.kept {w w' : World} {S : Nat → Prop} {v : Value} (h : DatB w S v) (hk : ∀ (g : Nat) (cur : Array Value), w.heap[g]? = some (Obj.cells cur 5 (0, 0)) → w'.heap[g]? = w.heap[g]?) : DatB w' S v := by
  rcases h with h | ⟨g, n, cap, cur, rfl, h1, h2, r⟩
  · exact .inl h
  · exact .inr ⟨g, n, cap, cur, rfl, h1, (hk g cur h2).trans h2, r⟩
/-- a byte that is written into a row leaves rows of bytes -/
theorem DatB.set {w : World} {S : Nat → Prop} {v : Value} (h : DatB w S v) {g k : Nat} {x : UInt8} : DatB (w.setCell ⟨g, k, none⟩ (.int .u8 (x.toNat : Nat))) S v := by
  rcases h with h | ⟨g', n, cap, cur, rfl, h1, h2, h3, h4⟩
  · exact .inl h
  · by_cases e : g' = g
    · subst e
      refine .inr ⟨g', n, cap, _, rfl, h1, set_row h2 k _, h3, fun j hj => ?_⟩
      by_cases e2 : k = j
      · subst e2
        refine ⟨x, ?_⟩
        obtain ⟨y, hy⟩ := h4 k hj
        have : k < cur.size := (Array.getElem?_eq_some_iff.1 hy).1
        simp [this]
      · obtain ⟨y, hy⟩ := h4 j hj
        exact ⟨y, by rw [Array.getElem?_setIfInBounds_ne e2]; exact hy⟩
    · exact .inr ⟨g', n, cap, cur, rfl, h1, (Below.heap_setCell w ⟨g, k, none⟩ _ g' (by simpa using e)).trans h2, h3, h4⟩
theorem Turn.set {S : Nat → Prop} {w w' : World} (h : Turn S w w') {g : Nat} (hg : S g) (c : Nat) (v : Value) : Turn S w (w'.setCell ⟨g, c, none⟩ v) :=
  ⟨h.os, h.tape, h.output, Nat.le_trans h.size (Nat.le_of_eq (by simp)), fun k hk hn => (Below.heap_setCell w' ⟨g, c, none⟩ v k (fun e => hn (by simpa using e ▸ hg))).trans (h.block k hk hn)⟩
theorem xor_byte (x : UInt8) : ∃ y : UInt8, bits BinOp.xor IntKind.u8 (x.toNat : Int) 255 = (y.toNat : Nat) := by
  refine ⟨x ^^^ 255, ?_⟩
  have key : ∀ n : Fin 256, bits BinOp.xor IntKind.u8 (n.val : Int) 255 = ((n.val ^^^ 255 : Nat) : Int) := by set_option maxRecDepth 100000 in decide
  rw [UInt8.toNat_xor]
  exact key ⟨x.toNat, UInt8.toNat_lt x⟩
theorem sumM_map {f : Mv → Nat} (hf : ∀ a b, toE a = toE b → f a = f b) : ∀ {ms ns : List Mv}, ms.map toE = ns.map toE → sumM f ms = sumM f ns
  | [], [], _ => rfl
  | [], _ :: _, h => by simp at h
  | _ :: _, [], h => by simp at h
  | a :: ms, b :: ns, h => by
    simp only [List.map_cons, List.cons.injEq] at h
    simp only [sumM]
    rw [hf a b h.1, sumM_map hf h.2]
theorem wtT_map {a b : Mv} (h : toE a = toE b) : wtT a = wtT b := by rw [toE_iff] at h; unfold wtT; rw [h.1]
theorem wtD_map {a b : Mv} (h : toE a = toE b) : wtD a = wtD b := by rw [toE_iff] at h; unfold wtD; rw [h.2.2]
theorem wtB_map {a b : Mv} (h : toE a = toE b) : wtB a = wtB b := by rw [toE_iff] at h; unfold wtB; rw [h.1, h.2.2]
theorem ok_map {a b : Mv} (h : toE a = toE b) : okM a = okM b := by rw [toE_iff] at h; unfold okM; rw [h.1, h.2.1]
theorem memB_map (p : Nat) {a b : Mv} (h : toE a = toE b) : memB p a = memB p b := by rw [toE_iff] at h; unfold memB; rw [h.1, h.2.1, h.2.2]
theorem tbl_map : ∀ {ms ns : List Mv}, ms.map toE = ns.map toE → tbl ms = tbl ns
  | [], [], _ => rfl
  | [], _ :: _, h => by simp at h
  | _ :: _, [], h => by simp at h
  | a :: ms, b :: ns, h => by
    simp only [List.map_cons, List.cons.injEq] at h
    have h1 := (toE_iff a b).1 h.1
    simp only [tbl]
    rw [h1.1, tbl_map h.2]
theorem bodyB_map : ∀ (p : Nat) {ms ns : List Mv}, ms.map toE = ns.map toE → bodyB p ms = bodyB p ns
  | _, [], [], _ => rfl
  | _, [], _ :: _, h => by simp at h
  | _, _ :: _, [], h => by simp at h
  | p, a :: ms, b :: ns, h => by
    simp only [List.map_cons, List.cons.injEq] at h
    simp only [bodyB]
    rw [memB_map p h.1, wtT_map h.1, bodyB_map _ h.2]
theorem all_map : ∀ {ms ns : List Mv}, ms.map toE = ns.map toE → ms.all okM = ns.all okM
  | [], [], _ => rfl
  | [], _ :: _, h => by simp at h
  | _ :: _, [], h => by simp at h
  | a :: ms, b :: ns, h => by
    simp only [List.map_cons, List.cons.injEq] at h
    simp only [List.all_cons]
    rw [ok_map h.1, all_map h.2]
theorem arch_map {ms ns : List Mv} (h : ms.map toE = ns.map toE) : archB ms = archB ns := by
  unfold archB tableB
  rw [tbl_map h, bodyB_map 0 h]
theorem wrong_map {ms ns : List Mv} (h : ms.map toE = ns.map toE) : wrongR ms = wrongR ns := by
  have hl : ms.length = ns.length := by simpa using congrArg List.length h
  unfold wrongR lenA
  rw [sumM_map (fun _ _ => wtD_map) h, sumM_map (fun _ _ => wtT_map) h, all_map h, hl]
theorem fine_of {ms : List Mv} (h : sumM wtB ms ≤ 100000) : Fine ms := by
  have h0 : ∀ l : List Mv, l.length ≤ sumM wtB l ∧ sumM wtD l ≤ 60 * l.length + sumM wtB l ∧ sumM wtT l ≤ l.length + sumM wtB l := by
    intro l
    induction l with
    | nil => simp [sumM]
    | cons m r ih =>
      have h1 : wtD m ≤ 60 + wtB m := by unfold wtD wtB evn; omega
      have h2 : wtT m ≤ 1 + wtB m := by unfold wtT wtB; split <;> omega
      have h3 : 1 ≤ wtB m := by unfold wtB; omega
      simp only [sumM, List.length_cons]
      omega
  obtain ⟨h1, h2, h3⟩ := h0 ms
  refine ⟨by omega, ?_, fun m hm => ?_⟩
  · unfold lenA evn
    split <;> omega
  · have h4 := sumM_mem wtB hm
    have h5 : wtB m = 1 + m.data.length + m.name.length := rfl
    omega
end Go.Proofs.YtcijjigafcpcpaaGreatDoor
