/- Lists of texts in memory, and the contracts of lines.joined and of the iterator that it hands back: it yields the lines that are the first logical line, one by one. -/
import Derived.RangeFuncNested
import Derived.RangeFuncBound
import Derived.RangeFuncCalls
import Derived.RangeFuncLeaves
import Derived.RangeFuncBox
import Derived.Shelf.Abstract
import Derived.Shelf.RegionOpen
import Derived.WalkKit
import Derived.OwnWalkIn
import Derived.TacticsInMore
import Derived.LoopNIn
import Derived.LoopIn
import Derived.Maps.AppendAt
import Derived.Test.YteleakbefebabaaDoorRf
import Derived.Test.YteleakbefebabaaDoorWord
namespace Go.Proofs.YteleakbefebabaaDoor
open Go.RowKit Go.Shelf
attribute [local go_sem] Oper.semAt_some

/-- the texts L lie from al on -/
def Txt (W : World) (al : Option Addr) (L : List ByteArray) : Prop := ∀ k, k < L.length → ∃ b off, al = some ⟨b, off, none⟩ ∧ b < W.heap.size ∧ W.cell? ⟨b, off + k, none⟩ = some (.string (L.getD k ⟨#[]⟩))
theorem Txt.below {W W' : World} {al : Option Addr} {L : List ByteArray} (h : Txt W al L) (hb : Below W.heap.size W W') : Txt W' al L := fun k hk => by
  obtain ⟨b, off, e, h1, h2⟩ := h k hk
  exact ⟨b, off, e, Nat.lt_of_lt_of_le h1 hb.size, (hb.cell (p := ⟨b, off + k, none⟩) h1).trans h2⟩
/-- what a round must keep: every block below N but those of A -/
def Kf (A : Nat → Prop) (N : Nat) (W W' : World) : Prop := W.heap.size ≤ W'.heap.size ∧ ∀ k, k < N → ¬ A k → W'.heap[k]? = W.heap[k]?
theorem Kf.refl (A : Nat → Prop) (N : Nat) (W : World) : Kf A N W W := ⟨Nat.le_refl _, fun _ _ _ => rfl⟩
theorem Kf.t {A : Nat → Prop} {N : Nat} {X Y Z : World} (h : Kf A N X Y) (k : Kf A N Y Z) : Kf A N X Z := ⟨Nat.le_trans h.1 k.1, fun i hi hA => (k.2 i hi hA).trans (h.2 i hi hA)⟩
theorem Kf.b {A : Nat → Prop} {N : Nat} (W : World) (l : Nat) (o' : Obj) (hl : N ≤ l) : Kf A N W (W.putObj l o') := ⟨by simp, fun k hk _ => World.putObj_heap_other (by omega)⟩
theorem Kf.below {A : Nat → Prop} {N : Nat} {W W' : World} (h : Below W.heap.size W W') (hN : N ≤ W.heap.size) : Kf A N W W' := ⟨h.size, fun k hk _ => h.block k (by omega)⟩
theorem Kf.cell {A : Nat → Prop} {N : Nat} {W W' : World} (h : Kf A N W W') (b i : Nat) (hb : b < N) (hA : ¬ A b) : W'.cell? ⟨b, i, none⟩ = W.cell? ⟨b, i, none⟩ := by simp only [World.cell?, h.2 b hb hA]
/-- what the iterator reads: its box, the lines -/
structure Ev (L : List ByteArray) (al : Option Addr) (cl Bl : Nat) (W : World) : Prop where
  box : Boxed W Bl 23 (.slice al L.length cl)
  txt : Txt W al L

theorem joined_any (al : Option Addr) (n c : Nat) (w : World) :
    Calls Tryd.prog 29 #[.slice al n c] w fun e w' => e = .returned (.func (.func 37) #[] #[.pointer (some ⟨w.heap.size, 0, none⟩)]) ∧ w' = w.alloc (.cells #[.slice al n c] 23) := by
  go_enter Tryd.func29, Tryd.ntmps29
  go_wp2
  go_ret
  exact ⟨rfl, rfl⟩

/-- x may come behind pre -/
structure Pf (L : List ByteArray) (pre : List ByteArray) (x : ByteArray) : Prop where
  lt : pre.length < L.length
  beg : pre = L.take pre.length
  at_ : x = L.getD pre.length ⟨#[]⟩
  open_ : ∀ y ∈ pre, opn (tl y) = true
theorem take_on (L : List ByteArray) (k : Nat) (h : k < L.length) : L.take (k + 1) = L.take k ++ [L.getD k ⟨#[]⟩] := by
  rw [List.take_succ_eq_append_getElem h, List.getD_eq_getElem?_getD, List.getElem?_eq_getElem h]; rfl
theorem drop_on (L : List ByteArray) (k : Nat) (h : k < L.length) : L.drop k = L.getD k ⟨#[]⟩ :: L.drop (k + 1) := by
  rw [List.drop_eq_getElem_cons h, List.getD_eq_getElem?_getD, List.getElem?_eq_getElem h]; rfl
theorem jn_stop (L : List ByteArray) (k : Nat) (h : k < L.length) (ho : ∀ y ∈ L.take k, opn (tl y) = true) (hx : opn (tl (L.getD k ⟨#[]⟩)) = false) : (L.take k ++ [L.getD k ⟨#[]⟩]).map tl = jn (L.map tl) := by
  have e : L.map tl = (L.take k).map tl ++ tl (L.getD k ⟨#[]⟩) :: (L.drop (k + 1)).map tl := by
    rw [← List.map_cons, ← List.map_append, ← drop_on L k h, List.take_append_drop]
  rw [e, jn_end _ _ _ (fun y hy => by obtain ⟨z, hz, rfl⟩ := List.mem_map.1 hy; exact ho z hz) hx]
  simp
theorem jn_whole (L : List ByteArray) (ho : ∀ y ∈ L, opn (tl y) = true) : L.map tl = jn (L.map tl) := by
  have := jn_on (L.map tl) [] (fun y hy => by obtain ⟨z, hz, rfl⟩ := List.mem_map.1 hy; exact ho z hz)
  simp [jn] at this
  exact this.symm

set_option maxRecDepth 100000 in
set_option maxHeartbeats 1000000 in
theorem joined1_in (n : Nat) (hn : 1 ≤ n) (l : Nat) (A : Nat → Prop) (N Bl : Nat) (L : List ByteArray) (al : Option Addr) (cl : Nat) (hl : L.length ≤ 1000000) (hls : ∀ j, (L.getD j ⟨#[]⟩).size ≤ 1000000) (J Jx : List ByteArray → World → Prop)
    (hY : ∀ pre x W, Pf L pre x → J pre W → YieldAt Fence.wide (n - 1) Tryd.prog l #[.string x] W fun e W' =>
      (e = .returned (.bool true) ∧ J (pre ++ [x]) W' ∧ Kf A N W W') ∨ (e = .returned (.bool false) ∧ Jx (pre ++ [x]) W'))
    (W : World) (hE : ∀ W', Kf A N W W' → Ev L al cl Bl W') (h0 : J [] W) :
    CallsIn Fence.wide n Tryd.prog 37 #[.func (.yield l) #[] #[], .pointer (some ⟨Bl, 0, none⟩)] W fun e W' => (∃ v, e = .returned v) ∧
      ((∃ ys : List ByteArray, ys.map tl = jn (L.map tl) ∧ J ys W') ∨ (∃ pre, True ∧ Jx pre W')) := by
  have HE := hide' hE
  have HLS := hide' hls
  have HY := hide' hY
  have hc0 := (hE W (Kf.refl A N W)).box.cell
  clear hE hls hY
  refine callsIn_of_wp Tryd.func37 rfl trivial ?_ rfl
  simp only [Tryd.ntmps37, List.size_toArray, List.length_cons, List.length_nil, Nat.reduceAdd, Nat.reduceSub, Array.replicate_succ, Array.replicate_zero, List.push_toArray, List.append_toArray, List.nil_append, List.cons_append]
  gi_wp2
  gi_loopw [7] (fun p wr => ∃ k : Nat, k ≤ L.length ∧ p = .int .i64 k ∧ Kf A N W wr ∧ Hid (∀ y ∈ L.take k, opn (tl y) = true) ∧ J (L.take k) wr)
    (fun p _ => L.length - (intOf p).toNat)
  case atStart => exact ⟨0, Nat.zero_le _, rfl, Kf.refl A N W, fun y hy => by simp at hy, by simpa using h0⟩
  case round =>
    obtain ⟨k, hk, rfl, hKf, HW, hJs⟩ := hrel
    by_cases hlt : k < L.length
    · have hEv := HE.out wr hKf
      obtain ⟨b, off, rfl, _, p1⟩ := hEv.txt k hlt
      have hpf : Pf L (L.take k) (L.getD k ⟨#[]⟩) := ⟨by rw [List.length_take]; omega, by rw [List.length_take, Nat.min_eq_left hk], by rw [List.length_take, Nat.min_eq_left hk], HW.out⟩
      have hxs := HLS.out k
      obtain ⟨fn, tmps, assign, body, hy, hRd⟩ := HY.out _ _ wr hpf hJs
      have hs1 := jn_stop L k hlt HW.out
      have hs2 := take_on L k hlt
      rw [← hs2] at hs1 hRd
      have HS1 := hide' hs1
      have HW2 : Hid (opn (tl (L.getD k ⟨#[]⟩)) = true → ∀ y ∈ L.take (k + 1), opn (tl y) = true) := fun h y hy => by
        rw [hs2] at hy
        rcases List.mem_append.1 hy with hy | hy
        · exact HW.out y hy
        · rw [List.mem_singleton.1 hy]; exact h
      have ho := fun w => open_any (L.getD k ⟨#[]⟩) w hxs
      clear hs1 hs2 hpf HW hxs
      generalize L.getD k ⟨#[]⟩ = x at *
      obtain ⟨o, HO⟩ : ∃ o, Hid (o = opn (tl x)) := ⟨_, rfl⟩
      rw [← HO.out] at ho
      gi_wp2
      refine hRd.mono ?_
      rintro e W3 (⟨rfl, hJ3, hk3⟩ | ⟨rfl, hJx3⟩)
      · clear hy hRd
        cases o with
        | true =>
          have HW3 := hide' (HW2.out HO.out.symm)
          gi_wp2_with (refine ⟨trivial, ?_⟩; gi_at_call 16; refine (callsIn_wide.2 (ho _)).mono ?_; rintro e w' ⟨rfl, rfl⟩)
          exact ⟨⟨k + 1, by omega, by go_num, hKf.t hk3, HW3, hJ3⟩, by simp [intOf]; omega⟩
        | false =>
          have HF := hide' (HS1.out HO.out.symm)
          gi_wp2_with (refine ⟨trivial, ?_⟩; gi_at_call 16; refine (callsIn_wide.2 (ho _)).mono ?_; rintro e w' ⟨rfl, rfl⟩)
          refine bodyPost_ret (results_none rfl _ _ _) rfl ?_
          exact ⟨⟨_, rfl⟩, .inl ⟨_, HF.out, hJ3⟩⟩
      · clear hy hRd
        gi_wp2
        refine ⟨trivial, ?_⟩
        gi_wp2
        refine bodyPost_ret (results_none rfl _ _ _) rfl ?_
        exact ⟨⟨_, rfl⟩, .inr ⟨_, trivial, hJx3⟩⟩
    · obtain rfl : k = L.length := by omega
      rw [List.take_length] at HW hJs
      have HF := hide' (jn_whole L HW.out)
      clear HW
      gi_wp2
      go_end0
      exact ⟨⟨_, rfl⟩, .inl ⟨L, HF.out, hJs⟩⟩

/-- lines.joined HANDS BACK A VALUE that yields the lines of the first logical line, in order, while what it reads is kept. -/
theorem joined_seq (n : Nat) (hn : 1 ≤ n) (A : Nat → Prop) (N Bl : Nat) (L : List ByteArray) (al : Option Addr) (cl : Nat) (hl : L.length ≤ 1000000) (hls : ∀ j, (L.getD j ⟨#[]⟩).size ≤ 1000000)
    (w : World) (hN : N ≤ w.heap.size) (hE : ∀ W', Kf A N w W' → Ev L al cl Bl W') :
    SeqOf Fence.wide n Tryd.prog 37 #[.pointer (some ⟨Bl, 0, none⟩)] (fun x : ByteArray => #[Value.string x]) (fun X Y => X = Y) (Kf A N) (Pf L) (fun ys => ys.map tl = jn (L.map tl)) (fun _ => True) w := fun l J Jx W hW _ _ hY h0 =>
  joined1_in n hn l A N Bl L al cl hl hls J Jx hY W (fun W' h => hE W' ((Kf.below hW hN).t h)) h0
end Go.Proofs.YteleakbefebabaaDoor
