import Derived.Test.YtabmnkddmdffkaaGreatDoorADirG
import Derived.Deep.AppendSrc
import Derived.Laws.AppendOwn
import Derived.Laws.OwnMore
import Derived.Maps.AppendAt
import Derived.OwnWalk
namespace Go.Proofs.YtabmnkddmdffkaaGreatDoor.Tx
open Go.RowKit Go.Shelf
def tl (x : ByteArray) : List UInt8 := x.data.toList
def pc (l : List UInt8) (a k : Nat) : List UInt8 := (l.drop a).take (k - a)
theorem pc_one (s : ByteArray) (k : Nat) (h : k < s.size) : pc s.data.toList k (k + 1) = [s[k]] := by
 unfold pc; rw [drop_at s k h, show k + 1 - k = 1 by omega]; rfl
theorem pc_more (s : ByteArray) (a k : Nat) (ha : a ≤ k) (h : k < s.size) : pc s.data.toList a (k + 1) = pc s.data.toList a k ++ [s[k]] := by
 unfold pc
 have hl : k - a < (s.data.toList.drop a).length := by simp; have : s.data.size = s.size := rfl; omega
 rw [show k + 1 - a = (k - a) + 1 by omega, List.take_succ_eq_append_getElem hl]
 congr 2
 rw [List.getElem_drop]
 have e : a + (k - a) = k := by omega
 simp only [e]
 rfl
theorem pc_ne (s : ByteArray) (a k : Nat) (ha : a < k) (hk : k ≤ s.size) : (pc s.data.toList a k).isEmpty = false := by
 have hl : (pc s.data.toList a k).length = k - a := by
  unfold pc; rw [List.length_take, List.length_drop]; have : s.data.toList.length = s.size := by simp
  omega
 cases h : pc s.data.toList a k with
 | nil => rw [h] at hl; simp at hl; omega
 | cons _ _ => rfl
theorem pc_ext (s : ByteArray) (a k : Nat) : tl (s.extract a k) = pc s.data.toList a k := Lib.extract_data s a k
def RsI (s : ByteArray) (L : List ByteArray) (f : Int) (k : Nat) : Prop :=
 (f = -1 ∧ L.map tl ++ words (s.data.toList.drop k) = words s.data.toList) ∨ ∃ a : Nat, a < k ∧ f = a ∧ L.map tl ++ wgo (pc s.data.toList a k) (s.data.toList.drop k) = words s.data.toList
theorem rs_blank0 (s : ByteArray) (L : List ByteArray) (k : Nat) (h : k < s.size) (hb : bl s[k] = true) (hI : RsI s L (-1) k) : RsI s L (-1) (k + 1) := by
 rcases hI with ⟨_, e⟩ | ⟨a, _, ha, _⟩
 ·refine .inl ⟨rfl, ?_⟩
  rw [drop_at s k h, words_blank _ _ hb] at e
  exact e
 ·omega
theorem rs_blank1 (s : ByteArray) (L : List ByteArray) (a k : Nat) (hk : k < s.size) (hb : bl s[k] = true) (hI : RsI s L a k) : RsI s (L ++ [s.extract a k]) (-1) (k + 1) := by
 rcases hI with ⟨h, _⟩ | ⟨a', h1, ha, e⟩
 ·omega
 ·obtain rfl : a = a' := by omega
  refine .inl ⟨rfl, ?_⟩
  rw [drop_at s k hk] at e
  rw [List.map_append, List.map_singleton, pc_ext, List.append_assoc, ← e]
  simp [wgo, hb, pc_ne s a k h1 (by omega), words]
theorem rs_word0 (s : ByteArray) (L : List ByteArray) (k : Nat) (h : k < s.size) (hb : bl s[k] = false) (hI : RsI s L (-1) k) : RsI s L k (k + 1) := by
 rcases hI with ⟨_, e⟩ | ⟨a, _, ha, _⟩
 ·refine .inr ⟨k, by omega, rfl, ?_⟩
  rw [drop_at s k h] at e
  rw [pc_one s k h, ← e]
  simp [words, wgo, hb]
 ·omega
theorem rs_word1 (s : ByteArray) (L : List ByteArray) (a k : Nat) (hk : k < s.size) (hb : bl s[k] = false) (hI : RsI s L a k) : RsI s L a (k + 1) := by
 rcases hI with ⟨h, _⟩ | ⟨a', h1, ha, e⟩
 ·omega
 ·obtain rfl : a = a' := by omega
  refine .inr ⟨a, by omega, rfl, ?_⟩
  rw [drop_at s k hk] at e
  rw [pc_more s a k (by omega) hk, ← e]
  simp [wgo, hb]
theorem rs_end0 (s : ByteArray) (L : List ByteArray) (hI : RsI s L (-1) s.size) : L.map tl = words s.data.toList := by
 rcases hI with ⟨_, e⟩ | ⟨a, _, ha, _⟩
 ·rw [drop_end s s.size (by omega), words_nil, List.append_nil] at e
  exact e
 ·omega
theorem rs_end1 (s : ByteArray) (L : List ByteArray) (a : Nat) (hI : RsI s L a s.size) : (L ++ [s.extract a s.size]).map tl = words s.data.toList := by
 rcases hI with ⟨h, _⟩ | ⟨a', h1, ha, e⟩
 ·omega
 ·obtain rfl : a = a' := by omega
  rw [drop_end s s.size (by omega)] at e
  rw [List.map_append, List.map_singleton, pc_ext, ← e]
  simp [wgo, pc_ne s a s.size h1 (by omega)]
theorem app_below {w W w1 : World} {base : Nat} {v : Value} {k : Nat} {xs : List Value} {tmp : Obj} (hB : Below base w W) (hbase : base ≤ W.heap.size) (hrow : W.ownsRow base 9 1 v k xs) (hgrow : (W.alloc tmp).grownBy w1 v.ownBlock) : Below base w w1 := by
 refine (hB.alloc hbase tmp).grown hgrow (by simp; omega) fun j ej => ?_
 rcases hrow.2 with ⟨rfl, _⟩ | ⟨g, cap, cur, rfl, hb, _, _⟩
 ·simp [Value.ownBlock] at ej
 ·obtain rfl : g = j := by simpa [Value.ownBlock] using ej
  exact hb
set_option maxRecDepth 100000 in
set_option maxHeartbeats 2000000 in
theorem rsplit_any (s : ByteArray) (hs : s.size ≤ 1000000) (w : World) :
  Calls Tryz.prog 32 #[.string s] w fun e W' => ∃ (v : Value) (L : List ByteArray), e = .returned v ∧ L.map tl = words s.data.toList ∧ W'.ownsRow w.heap.size 9 1 v L.length (L.map Value.string) ∧ Below w.heap.size w W' := by
 obtain ⟨i0, hi, hz0, hz1, hz2⟩ := info_parts info9
 go_enter Tryz.func32, Tryz.ntmps32
 go_wp2
 go_loopw [3, 4, 5] (fun o f i wr => ∃ (k : Nat) (L : List ByteArray) (n : Int), k ≤ s.size ∧ L.length ≤ k ∧ -1 ≤ n ∧ n ≤ k ∧ f = .int .i64 n ∧ i = .int .i64 k ∧ wr.ownsRow w.heap.size 9 1 o L.length (L.map Value.string) ∧ Below w.heap.size w wr ∧ RsI s L n k) (fun _ _ i _ => s.size - (intOf i).toNat)
 case atStart => exact ⟨0, [], -1, Nat.zero_le _, Nat.le_refl _, by omega, by omega, rfl, rfl, World.ownsRow_nil _ _ _ _, Below.refl _ _, .inl ⟨rfl, rfl⟩⟩
 case round =>
  obtain ⟨k, L, n, hk, hL, hn0, hn1, rfl, rfl, hrow, hB, hI⟩ := hrel
  have hsz := hB.size
  have hpb : L.length + 1 ≤ maxLen := by unfold maxLen; omega
  have hbb : (L.length + 1) * 16 ≤ 140737488355328 := by omega
  have h2b : ∀ o, w.heap.size ≤ (wr.alloc o).heap.size := fun o => by simp; omega
  by_cases hlt : k < s.size
  ·have kb : ∀ w, Calls Tryz.prog 61 #[.int .u8 s[k].toNat] w fun e w' => e = .returned (.bool (bl s[k])) ∧ w = w' := fun w => (rblank_any s[k] w).mono fun e w' ⟨h1, h2⟩ => ⟨h1, h2.symm⟩
   cases hb : bl s[k] with
   | true =>
    rw [hb] at kb
    by_cases hn : 0 ≤ n
    ·obtain ⟨a, rfl⟩ := Int.eq_ofNat_of_zero_le hn
     have hI' := rs_blank1 s L a k hlt hb hI
     clear hb hI
     go_wp2_with (first | (go_at_call 61; refine (kb _).mono ?_; rintro e w' ⟨rfl, rfl⟩) | (at_builtin; refine wpList_append_own _ rfl _ _ 40 rfl w.heap.size 9 i0 (.string ⟨#[]⟩) 1 16 Tryz.underlying40 hi hz0 hz1 hz2 rfl (by decide) _ _ _ rfl (hrow.alloc _) ⟨wr.heap.size, 0, none⟩ 1 1 [.string (s.extract a k)] rfl rfl (cell_one_new _ _ _) (by simp [Value.oneCell']) hpb hbb (h2b _) ?_; intro v' w2 hown' hgrow _))
     have hB2 := app_below hB hsz hrow hgrow
     exact ⟨⟨k + 1, L ++ [s.extract a k], -1, by omega, by simp; omega, by omega, by omega, rfl, by go_num, by simpa using hown', hB2, hI'⟩, by simp [intOf]; omega⟩
    ·obtain rfl : n = -1 := by omega
     have hI' := rs_blank0 s L k hlt hb hI
     clear hb hI hpb hbb h2b
     go_wp2_with (go_at_call 61; refine (kb _).mono ?_; rintro e w' ⟨rfl, rfl⟩)
     exact ⟨⟨k + 1, L, -1, by omega, by omega, by omega, by omega, rfl, by go_num, hrow, hB, hI'⟩, by simp [intOf]; omega⟩
   | false =>
    rw [hb] at kb
    by_cases hn : 0 ≤ n
    ·obtain ⟨a, rfl⟩ := Int.eq_ofNat_of_zero_le hn
     have hI' := rs_word1 s L a k hlt hb hI
     clear hb hI hpb hbb h2b
     go_wp2_with (go_at_call 61; refine (kb _).mono ?_; rintro e w' ⟨rfl, rfl⟩)
     exact ⟨⟨k + 1, L, a, by omega, by omega, by omega, by omega, rfl, by go_num, hrow, hB, hI'⟩, by simp [intOf]; omega⟩
    ·obtain rfl : n = -1 := by omega
     have hI' := rs_word0 s L k hlt hb hI
     clear hb hI hpb hbb h2b
     go_wp2_with (go_at_call 61; refine (kb _).mono ?_; rintro e w' ⟨rfl, rfl⟩)
     exact ⟨⟨k + 1, L, k, by omega, by omega, by omega, by omega, rfl, by go_num, hrow, hB, hI'⟩, by simp [intOf]; omega⟩
  ·obtain rfl : k = s.size := by omega
   by_cases hn : 0 ≤ n
   ·obtain ⟨a, rfl⟩ := Int.eq_ofNat_of_zero_le hn
    have hI' := rs_end1 s L a hI
    have HI := hide' hI'
    clear hI hI'
    go_wp2_with (at_builtin; refine wpList_append_own _ rfl _ _ 40 rfl w.heap.size 9 i0 (.string ⟨#[]⟩) 1 16 Tryz.underlying40 hi hz0 hz1 hz2 rfl (by decide) _ _ _ rfl (hrow.alloc _) ⟨wr.heap.size, 0, none⟩ 1 1 [.string (s.extract a s.size)] rfl rfl (cell_one_new _ _ _) (by simp [Value.oneCell']) hpb hbb (h2b _) ?_; intro v' w2 hown' hgrow _)
    have hB2 := app_below hB hsz hrow hgrow
    go_ret
    exact ⟨_, L ++ [s.extract a s.size], rfl, HI.out, by simpa using hown', hB2⟩
   ·obtain rfl : n = -1 := by omega
    have hI' := rs_end0 s L hI
    have HI := hide' hI'
    clear hI hI' hpb hbb h2b
    go_wp2
    go_ret
    exact ⟨_, rfl, L, HI.out, hrow, hB⟩
end Go.Proofs.YtabmnkddmdffkaaGreatDoor.Tx
namespace Go.Proofs.YtabmnkddmdffkaaGreatDoor.Sk
open Go.RowKit Go.Maps Go.Shelf
theorem wp_app_run {P : Program} {w : World} {o : Oper} {a : Act} {K : Act → World → Prop} {Q : Exit → Act → World → Prop} (s x : Operand) (t : TypeId)
  (ho : o.op = .call { callee := .builtin .append, args := #[s, x], argTypes := #[t, t] }) (v x' v' : Value) (w' : World) (hs : a.eval s = v) (hx : a.eval x = x')
  (hr : ∀ ty : TypeId, (Builtin.append_ #[t, t] ty #[v, x']).run P w = .ok v' w') (h : K (a.put o.dst v') w') : o.wp P a w K Q := by
 unfold Oper.wp execOp
 simp only [ho, resolve, invoke, builtin, Sem.run_bind, Sem.run_pure, Result.andThen_ok, List.map_toArray, List.map_cons, List.map_nil, hs, hx, hr]
 exact h
theorem wpList_app_run {P : Program} {w : World} {ops : Array Oper} {rest : List Oper} {o : Oper} {a : Act} {Q : Exit → Act → World → Prop} (hgd : o.guard = none) (s x : Operand) (t : TypeId)
  (ho : o.op = .call { callee := .builtin .append, args := #[s, x], argTypes := #[t, t] }) (v x' v' : Value) (w' : World) (hs : a.eval s = v) (hx : a.eval x = x')
  (hr : ∀ ty : TypeId, (Builtin.append_ #[t, t] ty #[v, x']).run P w = .ok v' w') (h : wpList P ops Q rest (a.put o.dst v') w') : wpList P ops Q (o :: rest) a w :=
 wpList_plain hgd fun _ hK => wp_app_run s x t ho v x' v' w' hs hx hr (hK _ _ h)
def OwS (w : World) (B : Nat) (v : Value) (L : List ByteArray) : Prop := w.ownsRow B 9 1 v L.length (L.map Value.string)
theorem OwS.low {w : World} {B : Nat} {v : Value} {L : List ByteArray} (h : OwS w B v L) (j : Nat) (e : v.ownBlock = some j) : B ≤ j := by
 rcases h.2 with ⟨rfl, _⟩ | ⟨g, cap, cur, rfl, hg, hb, _⟩
 ·simp [Value.ownBlock] at e
 ·obtain rfl : g = j := by simpa [Value.ownBlock] using e
  exact hg
theorem app_strs {w : World} {B b2 : Nat} {v v2 : Value} {LS NS : List ByteArray} (h : OwS w B v LS) (h2 : OwS w b2 v2 NS) (hl : LS.length + NS.length ≤ 1000000000) (hB : B ≤ w.heap.size) :
  ∃ v' w', (∀ ty : TypeId, (Builtin.append_ #[40, 40] ty #[v, v2]).run Tryz.prog w = .ok v' w') ∧ OwS w' B v' (LS ++ NS) ∧ Below B w w' := by
 obtain ⟨i0, hi, hz0, hz1, hz2⟩ := info_parts Tx.info9
 rcases Tx.Strs.of_row h2 with ⟨rfl, rfl⟩ | ⟨b, off, cap, rfl, h3, h4, h5, h6⟩
 ·refine ⟨v, w, fun ty => run_append_owned_none (P := Tryz.prog) w B 40 ty 9 i0 1 Tryz.underlying40 hi v LS.length _ h, by rw [List.append_nil]; exact h, Below.refl _ _⟩
 ·have hnews : ∀ j u, (NS.map Value.string)[j]? = some u → w.cell? ((⟨b, off, none⟩ : Addr).add j) = some u := by
   intro j u hu
   rw [Addr.add_lit]
   have hj : j < NS.length := by have := (List.getElem?_eq_some_iff.1 hu).1; simpa using this
   rw [h6 j hj, ← hu, List.getElem?_map, List.getD_eq_getElem?_getD, List.getElem?_eq_getElem hj]
   rfl
  have hone : ∀ u ∈ NS.map Value.string, u.oneCell' = true := by
   intro u hu
   obtain ⟨x, _, rfl⟩ := List.mem_map.1 hu
   rfl
  have run := fun ty => run_append_own_at w B 40 ty 9 i0 (.string ⟨#[]⟩) 1 16 Tryz.underlying40 hi hz0 hz1 hz2 rfl (by decide) v LS.length (LS.map Value.string) h ⟨b, off, none⟩ NS.length cap (NS.map Value.string) (by simp) hnews hone (by unfold maxLen; omega) (by omega) hB
  obtain ⟨v', w', hr, ho, hg, _, _⟩ := run 0
  refine ⟨v', w', fun ty => ?_, ?_, (Below.refl B w).grown hg hB (fun j hj => OwS.low h j hj)⟩
  ·rw [← hr]; rfl
  ·unfold OwS
   rw [List.length_append, List.map_append]
   exact ho
end Go.Proofs.YtabmnkddmdffkaaGreatDoor.Sk
namespace Go.Proofs.YtabmnkddmdffkaaGreatDoor.Sk
open Go.RowKit Go.Maps Go.Shelf
def flat2 (L : List Prw) : List Value := L.flatMap fun x => [.string x.1, .string x.2]
theorem flat2_len (L : List Prw) : (flat2 L).length = L.length * 2 := by
 induction L with
 | nil => rfl
 | cons x r ih => unfold flat2 at ih ⊢; rw [List.flatMap_cons, List.length_append, ih]; simp; omega
theorem flat2_at : ∀ (L : List Prw) (j : Nat) (x : Prw), L[j]? = some x → (flat2 L)[j * 2]? = some (.string x.1) ∧ (flat2 L)[j * 2 + 1]? = some (.string x.2)
 | [], j, x, h => by simp at h
 | y :: r, 0, x, h => by
  obtain rfl : y = x := by simpa using h
  exact ⟨rfl, rfl⟩
 | y :: r, j + 1, x, h => by
  have ih := flat2_at r j x (by simpa using h)
  unfold flat2 at ih ⊢
  rw [List.flatMap_cons]
  have e1 : (j + 1) * 2 = j * 2 + 2 := by omega
  rw [e1]
  exact ⟨by rw [List.getElem?_append_right (by simp)]; simpa using ih.1, by rw [List.getElem?_append_right (by simp)]; simpa using ih.2⟩
theorem flat2_inv : ∀ (L : List Prw) (j : Nat) (u : Value), (flat2 L)[j]? = some u → ∃ i x, L[i]? = some x ∧ (j = i * 2 ∧ u = .string x.1 ∨ j = i * 2 + 1 ∧ u = .string x.2)
 | [], j, u, h => by simp [flat2] at h
 | y :: r, 0, u, h => ⟨0, y, rfl, .inl ⟨rfl, by simpa [flat2] using h.symm⟩⟩
 | y :: r, 1, u, h => ⟨0, y, rfl, .inr ⟨rfl, by simpa [flat2] using h.symm⟩⟩
 | y :: r, j + 2, u, h => by
  obtain ⟨i, x, h1, h2⟩ := flat2_inv r j u (by simpa [flat2] using h)
  exact ⟨i + 1, x, by simpa using h1, by rcases h2 with ⟨rfl, h2⟩ | ⟨rfl, h2⟩; exact .inl ⟨by omega, h2⟩; exact .inr ⟨by omega, h2⟩⟩
theorem info29 : (Tryz.prog.info? 29).map (fun i : TypeInfo => (i.zero, i.size, i.bytes)) = some (some (.agg #[.string ⟨#[]⟩, .string ⟨#[]⟩]), 2, 32) := by kernel_rfl
theorem app_pairs {w : World} {pa : Option Addr} {pc : Nat} {L : List Prw} (hl : L.length ≤ 1000) (h : ∀ j x, L[j]? = some x → ∃ b off, pa = some ⟨b, off, none⟩ ∧ b < w.heap.size ∧ w.cell? ⟨b, off + j * 2, none⟩ = some (.string x.1) ∧ w.cell? ⟨b, off + j * 2 + 1, none⟩ = some (.string x.2)) (h0 : pa = none → pc = 0) :
  ∃ a' c' w', (∀ ty : TypeId, (Builtin.append_ #[25, 25] ty #[.slice none 0 0, .slice pa L.length pc]).run Tryz.prog w = .ok (.slice a' L.length c') w') ∧ Prs w' a' L.length L ∧ Below w.heap.size w w' := by
 obtain ⟨i0, hi, hz0, hz1, hz2⟩ := info_parts info29
 cases pa with
 | none =>
  have hL : L = [] := by
   cases L with
   | nil => rfl
   | cons y r => obtain ⟨b, off, e, _⟩ := h 0 y rfl; cases e
  subst hL
  obtain rfl := h0 rfl
  exact ⟨none, 0, w, fun ty => run_append_owned_none (P := Tryz.prog) w w.heap.size 25 ty 29 i0 2 Tryz.underlying25 hi _ 0 [] (World.ownsRow_nil _ _ _ _), ⟨rfl, fun j hj => absurd hj (Nat.not_lt_zero _)⟩, Below.refl _ _⟩
 | some ad =>
  have hnews : ∀ j u, (flat2 L)[j]? = some u → w.cell? (ad.add j) = some u := by
   intro j u hu
   obtain ⟨i, x, h1, h2⟩ := flat2_inv L j u hu
   obtain ⟨b, off, e, _, h4, h5⟩ := h i x h1
   cases e
   rw [Addr.add_lit]
   rcases h2 with ⟨rfl, rfl⟩ | ⟨rfl, rfl⟩
   ·exact h4
   ·rw [← Nat.add_assoc]; exact h5
  have hone : ∀ u ∈ flat2 L, u.oneCell' = true := by
   intro u hu
   obtain ⟨x, _, hx⟩ := List.mem_flatMap.1 hu
   rcases List.mem_cons.1 hx with rfl | hx
   ·rfl
   ·obtain rfl : u = .string x.2 := by simpa using hx
    rfl
  have run := fun ty => run_append_own_at w w.heap.size 25 ty 29 i0 (.agg #[.string ⟨#[]⟩, .string ⟨#[]⟩]) 2 32 Tryz.underlying25 hi hz0 hz1 hz2 rfl (by decide) (.slice none 0 0) 0 [] (World.ownsRow_nil _ _ _ _) ad L.length pc (flat2 L) (flat2_len L) hnews hone (by unfold maxLen; omega) (by omega) (Nat.le_refl _)
  obtain ⟨v', w', hr, ho, hg, _, _⟩ := run 0
  have hb : Below w.heap.size w w' := (Below.refl _ w).grown hg (Nat.le_refl _) (fun j hj => by simp [Value.ownBlock] at hj)
  rw [Nat.zero_add, List.nil_append] at ho
  rcases ho.2 with ⟨rfl, e0⟩ | ⟨g, cap, cur, rfl, hgb, hg2, h1, h2, h3, h4⟩
  ·have hL : L = [] := List.length_eq_zero_iff.1 e0
   subst hL
   exact ⟨none, 0, w', fun ty => by show _ = Result.ok (Value.slice none 0 0) w'; rw [← hr]; rfl, ⟨rfl, fun j hj => absurd hj (Nat.not_lt_zero _)⟩, hb⟩
  ·refine ⟨some ⟨g, 0, none⟩, cap, w', fun ty => by rw [← hr]; rfl, ⟨rfl, fun j hj => ⟨g, rfl, (Array.getElem?_eq_some_iff.1 hg2).1, ⟨_, hg2, rfl⟩, L[j], List.getElem?_eq_getElem hj, ?_, ?_⟩⟩, hb⟩
   ·have h5 := (flat2_at L j L[j] (List.getElem?_eq_getElem hj)).1
    rw [← h4, List.getElem?_take_of_lt (by omega)] at h5
    simp only [World.cell?, hg2]
    simpa using h5
   ·have h5 := (flat2_at L j L[j] (List.getElem?_eq_getElem hj)).2
    rw [← h4, List.getElem?_take_of_lt (by omega)] at h5
    simp only [World.cell?, hg2]
    simpa using h5
end Go.Proofs.YtabmnkddmdffkaaGreatDoor.Sk
