/- The contracts of anvilref1.Begins, anvilref1.Find and anvilref1.Replace. -/
import Derived.Test.YtjfbnjajekedlaaDoorRefSplit
import Derived.Test.YtjfbnjajekedlaaDoorRa
import Derived.Laws.IdiomStrings
import Derived.Laws.BytesArg
import Derived.Lib.AppendStr
namespace Go.Proofs.YtjfbnjajekedlaaDoor
open Go.RowKit Go.Shelf

theorem prefix_ext (s f : ByteArray) (a : Nat) (h : a + f.size ≤ s.size) : f.data.toList.isPrefixOf (s.data.toList.drop a) = ((s.extract a (a + f.size)).toList == f.toList) := by
  rw [Lib.toList_data, Lib.toList_data, Lib.extract_data, Nat.add_sub_cancel_left, Lib.size_eq f]
  have := Lib.occAt_iff_take s.data.toList f.data.toList a (by rw [← Lib.size_eq, ← Lib.size_eq]; exact h)
  exact this
theorem prefix_far (s f : ByteArray) (a : Nat) (ha : a ≤ s.size) (h : ¬ a + f.size ≤ s.size) : f.data.toList.isPrefixOf (s.data.toList.drop a) = false := by
  cases hb : f.data.toList.isPrefixOf (s.data.toList.drop a) with
  | false => rfl
  | true =>
    have := (List.isPrefixOf_iff_prefix.1 hb).length_le
    rw [List.length_drop, ← Lib.size_eq, ← Lib.size_eq] at this
    omega

set_option maxHeartbeats 400000 in
theorem begins_any (s f : ByteArray) (a : Nat) (w : World) (hs : s.size ≤ 100000) (hf : f.size ≤ 100000) (ha : a ≤ s.size) :
    Calls Tryd.prog 40 #[.string s, .int .i64 a, .string f] w fun e w' => e = .returned (.bool (f.data.toList.isPrefixOf (s.data.toList.drop a))) ∧ w' = w := by
  have h0 : (0 : Int) ≤ a := by omega
  by_cases h : a + f.size ≤ s.size
  · have h1 : (a : Int) ≤ (s.size : Int) - f.size := by omega
    rw [prefix_ext s f a h]
    cases hb : ((s.extract a (a + f.size)).toList == f.toList) with
    | true =>
      go_enter Tryd.func40, Tryd.ntmps40
      go_wp2
      go_ret
      exact ⟨rfl, rfl⟩
    | false =>
      go_enter Tryd.func40, Tryd.ntmps40
      go_wp2
      go_ret
      exact ⟨rfl, rfl⟩
  · have h1 : ¬ (a : Int) ≤ (s.size : Int) - f.size := by omega
    rw [prefix_far s f a ha h]
    go_enter Tryd.func40, Tryd.ntmps40
    go_wp2
    go_ret
    exact ⟨rfl, rfl⟩

set_option maxHeartbeats 400000 in
theorem rfind_any (s f : ByteArray) (w : World) (hs : s.size ≤ 100000) (hf : f.size ≤ 100000) :
    Calls Tryd.prog 25 #[.string s, .string f] w fun e w' => e = .returned (.int .i64 (Lib.index s.data.toList f.data.toList)) ∧ w' = w := by
  go_enter Tryd.func25, Tryd.ntmps25
  go_wp2
  go_loop [5] (fun i => ∃ k : Nat, k ≤ s.size + 1 ∧ i = .int .i64 k ∧ Hid (∀ j, j < k → Lib.occAt s.data.toList f.data.toList j = false)) (fun i => s.size + 1 - (intOf i).toNat)
  case atStart => exact ⟨0, Nat.zero_le _, rfl, fun j hj => absurd hj (Nat.not_lt_zero _)⟩
  case round =>
    obtain ⟨k, hk, rfl, HK⟩ := hrel
    by_cases h : k + f.size ≤ s.size
    · have h1 : (k : Int) ≤ (s.size : Int) - f.size := by omega
      have hx := prefix_ext s f k h
      cases hb : ((s.extract k (k + f.size)).toList == f.toList) with
      | true =>
        rw [hb] at hx
        have hfin : Lib.index s.data.toList f.data.toList = k := Lib.index_first (by rw [← Lib.size_eq]; omega) hx HK.out
        have HF := hide' hfin
        clear hx hfin HK
        go_wp2
        go_ret
        exact ⟨by rw [HF.out]; rfl, rfl⟩
      | false =>
        rw [hb] at hx
        have HK' : Hid (∀ j, j < k + 1 → Lib.occAt s.data.toList f.data.toList j = false) := fun j hj => by
          by_cases e : j = k
          · subst e; exact hx
          · exact HK.out j (by omega)
        clear hx HK
        go_wp2
        exact ⟨⟨k + 1, by omega, by go_num, HK'⟩, by simp [intOf]; omega⟩
    · have h1 : ¬ (k : Int) ≤ (s.size : Int) - f.size := by omega
      have hfin : Lib.index s.data.toList f.data.toList = -1 := Lib.index_none fun j hj => by
        rw [← Lib.size_eq] at hj
        by_cases e : j < k
        · exact HK.out j e
        · exact prefix_far s f j hj (by omega)
      have HF := hide' hfin
      clear hfin HK
      go_wp2
      go_ret
      exact ⟨by rw [HF.out]; rfl, rfl⟩

theorem info5 : (Tryd.prog.info? 5).map (fun i : TypeInfo => (i.zero, i.size, i.bytes)) = some (some (.int .u8 0), 1, 1) := by kernel_rfl
theorem row_form {W : World} {base : Nat} {e : TypeId} {m n : Nat} {v : Value} {xs : List Value} (h : W.ownsRow base e m v n xs) : ∃ a c, v = .slice a n c := by
  rcases h.2 with ⟨rfl, rfl⟩ | ⟨g, cap, _, rfl, _⟩
  · exact ⟨none, 0, rfl⟩
  · exact ⟨_, cap, rfl⟩
theorem conv_row {W : World} {base : Nat} {v : Value} {l : List UInt8} (h : W.ownsRow base 5 1 v l.length (Lib.byteCells l)) : (convert 50 9 v).run Tryd.prog W = .ok (.string ⟨l.toArray⟩) W := by
  have hh := h
  rcases h.2 with ⟨rfl, h0⟩ | ⟨g, cap, cur, rfl, _, _, _, _, _, _⟩
  · have e : l = [] := List.length_eq_zero_iff.1 h0
    subst e
    exact run_convert_bytes_nil W 50 5 Tryd.underlying50 Tryd.underlying5 0 0 9 Tryd.underlying9
  · refine run_convert_bytes_back W 50 9 5 ⟨g, 0, none⟩ cap l Tryd.underlying50 Tryd.underlying5 Tryd.underlying9 fun j hj => ?_
    refine hh.cells (g := g) rfl j _ ?_
    simp [Lib.byteCells, hj]
theorem grow_below {w W w1 : World} {base : Nat} {e : TypeId} {v : Value} {k : Nat} {xs : List Value} (hB : Below base w W) (hbase : base ≤ W.heap.size) (hrow : W.ownsRow base e 1 v k xs) (hgrow : W.grownBy w1 v.ownBlock) : Below base w w1 := by
  refine hB.grown hgrow hbase fun j ej => ?_
  rcases hrow.2 with ⟨rfl, _⟩ | ⟨g, cap, cur, rfl, hb, _, _⟩
  · simp [Value.ownBlock] at ej
  · obtain rfl : g = j := by simpa [Value.ownBlock] using ej
    exact hb
theorem row_alloc_below {w W w1 : World} {base : Nat} {e : TypeId} {v : Value} {k : Nat} {xs : List Value} {tmp : Obj} (hB : Below base w W) (hbase : base ≤ W.heap.size) (hrow : W.ownsRow base e 1 v k xs) (hgrow : (W.alloc tmp).grownBy w1 v.ownBlock) : Below base w w1 :=
  grow_below (hB.alloc hbase tmp) (by simp; omega) (hrow.alloc tmp) hgrow

/-- what the reference tells -/
def rR (s f t : ByteArray) : List UInt8 := ra (tl f) (tl t) (tl s)
theorem ne_of_size (f : ByteArray) (h : 1 ≤ f.size) : tl f ≠ [] := fun e => by
  have := Lib.size_eq f
  rw [show f.data.toList = tl f from rfl, e, List.length_nil] at this
  omega

theorem cells_str (P : List UInt8) (t : ByteArray) : Lib.byteCells (P ++ tl t) = Lib.byteCells P ++ Lib.strCells t := by simp [Lib.byteCells, Lib.strCells, tl]
theorem cells_one (P : List UInt8) (c : UInt8) : Lib.byteCells (P ++ [c]) = Lib.byteCells P ++ [.int .u8 c.toNat] := by simp [Lib.byteCells]
theorem len_str (P : List UInt8) (t : ByteArray) : (P ++ tl t).length = P.length + t.size := by rw [List.length_append, Lib.size_eq t]; rfl
theorem ra_step_hit (s f t : ByteArray) (k : Nat) (hlt : k < s.size) (h1 : 1 ≤ f.size) (hb : f.data.toList.isPrefixOf (s.data.toList.drop k) = true) : ra (tl f) (tl t) ((tl s).drop k) = tl t ++ ra (tl f) (tl t) ((tl s).drop (k + f.size)) := by
  have e := drop_at s k hlt
  rw [e] at hb
  have := ra_hit (tl f) (tl t) (ne_of_size f h1) _ _ hb
  rw [← e, show (tl f).length = f.size from (Lib.size_eq f).symm, List.drop_drop] at this
  exact this
/-- a row that is kept from the walk -/
structure RowOf (W : World) (B : Nat) (v : Value) (n : Nat) (P : List UInt8) (k : Nat) (s : ByteArray) : Prop where
  out : ∀ h : k < s.size, W.ownsRow B 5 1 v n (Lib.byteCells (P ++ [s[k]]))
/-- the next byte goes over as it is -/
def Goes (s f t : ByteArray) (k : Nat) (P : List UInt8) : Prop := ∀ h : k < s.size, (P ++ [s[k]]) ++ ra (tl f) (tl t) ((tl s).drop (k + 1)) = rR s f t
theorem ra_step_miss (s f t : ByteArray) (k : Nat) (hlt : k < s.size) (hb : f.data.toList.isPrefixOf (s.data.toList.drop k) = false) : ra (tl f) (tl t) ((tl s).drop k) = s[k] :: ra (tl f) (tl t) ((tl s).drop (k + 1)) := by
  have e := drop_at s k hlt
  rw [e] at hb
  have := ra_miss (tl f) (tl t) _ _ hb
  rw [← e] at this
  exact this
theorem miss_next (s f t : ByteArray) (k : Nat) (P : List UInt8) (hb : f.data.toList.isPrefixOf (s.data.toList.drop k) = false) (h : P ++ ra (tl f) (tl t) ((tl s).drop k) = rR s f t) : Goes s f t k P := fun h' => by
  rw [List.append_assoc, List.singleton_append, ← ra_step_miss s f t k h' hb]; exact h

set_option maxRecDepth 100000 in
set_option maxHeartbeats 2000000 in
theorem rreplace_ok (s f t : ByteArray) (w : World) (hs : s.size ≤ 100000) (hf : f.size ≤ 100000) (ht : t.size ≤ 100000) (h1 : 1 ≤ f.size) (hR : (rR s f t).length ≤ 65536) :
    Calls Tryd.prog 22 #[.string s, .string f, .string t] w fun e w' => e = .returned (.tuple #[.string ⟨(rR s f t).toArray⟩, .bool true]) ∧ Below w.heap.size w w' := by
  obtain ⟨i0, hi, hz0, hz1, hz2⟩ := info_parts info5
  have hne : f.toList.isEmpty = false := by
    rw [Lib.toList_data]
    cases h : f.data.toList with
    | nil => exact absurd h (ne_of_size f h1)
    | cons _ _ => rfl
  go_enter Tryd.func22, Tryd.ntmps22
  go_wp2
  go_loopw [8, 9] (fun o i wr => ∃ (k : Nat) (P : List UInt8), k ≤ s.size ∧ P.length ≤ 65536 ∧ i = .int .i64 k ∧ wr.ownsRow w.heap.size 5 1 o P.length (Lib.byteCells P) ∧ Below w.heap.size w wr ∧ Hid (P ++ ra (tl f) (tl t) ((tl s).drop k) = rR s f t)) (fun _ i _ => s.size - (intOf i).toNat)
  case atStart => exact ⟨0, [], Nat.zero_le _, by simp, rfl, World.ownsRow_nil _ _ _ _, Below.refl _ _, rfl⟩
  case round =>
    obtain ⟨k, P, hk, hP, rfl, hrow, hB, HR⟩ := hrel
    have hsz := hB.size
    have h2b : ∀ o, w.heap.size ≤ (wr.alloc o).heap.size := fun o => by simp; omega
    by_cases hlt : k < s.size
    · have kb : ∀ w, Calls Tryd.prog 40 #[.string s, .int .i64 k, .string f] w fun e w' => e = .returned (.bool (f.data.toList.isPrefixOf (s.data.toList.drop k))) ∧ w = w' := fun w => (begins_any s f k w hs hf hk).mono fun e w' ⟨h1, h2⟩ => ⟨h1, h2.symm⟩
      cases hb : f.data.toList.isPrefixOf (s.data.toList.drop k) with
      | true =>
        rw [hb] at kb
        have hroom : k + f.size ≤ s.size := Decidable.byContradiction fun hh => by rw [prefix_far s f k hk hh] at hb; cases hb
        have HR' : Hid ((P ++ tl t) ++ ra (tl f) (tl t) ((tl s).drop (k + f.size)) = rR s f t) := by
          show _ = _
          rw [List.append_assoc, ← ra_step_hit s f t k hlt h1 hb]; exact HR.out
        clear hb HR
        have hP2 : P.length + t.size ≤ 65536 := by
          have e := congrArg List.length HR'.out
          rw [List.length_append, len_str] at e
          omega
        go_wp2_with (first | (go_at_call 40; refine (kb _).mono ?_; rintro e w' ⟨rfl, rfl⟩) | (at_builtin; refine Lib.wpList_append_own_string _ rfl _ _ 50 9 rfl w.heap.size 5 i0 Tryd.underlying50 Tryd.underlying9 hi hz0 hz1 hz2 _ _ _ rfl hrow t rfl (by unfold maxLen; omega) (by omega) hsz ?_; intro v' w2 hown' hgrow _; obtain ⟨a2, c2, rfl⟩ := row_form hown'))
        have hB2 := grow_below hB hsz hrow hgrow
        exact ⟨⟨k + f.size, P ++ tl t, by omega, by rw [len_str]; omega, by go_num, by rw [len_str, cells_str]; exact hown', hB2, HR'⟩, by simp [intOf]; omega⟩
      | false =>
        rw [hb] at kb
        have HM := miss_next s f t k P hb HR.out
        clear hb HR
        have hP2 : P.length ≤ 65535 := by
          have e := congrArg List.length (HM hlt)
          rw [List.length_append, List.length_append, List.length_singleton] at e
          omega
        go_wp2_with (first | (go_at_call 40; refine (kb _).mono ?_; rintro e w' ⟨rfl, rfl⟩) | (at_builtin; refine wpList_append_own _ rfl _ _ 50 rfl w.heap.size 5 i0 (.int .u8 0) 1 1 Tryd.underlying50 hi hz0 hz1 hz2 rfl (by decide) _ _ _ rfl (hrow.alloc _) ⟨wr.heap.size, 0, none⟩ 1 1 [.int .u8 s[k].toNat] rfl rfl (cell_one_new _ _ _) (by simp [Value.oneCell']) (by unfold maxLen; omega) (by omega) (h2b _) ?_; intro v' w2 hown' hgrow hif; clear hif; obtain ⟨a2, c2, rfl⟩ := row_form hown'; have hB2 := row_alloc_below hB hsz hrow hgrow; rw [← cells_one] at hown'; obtain ⟨m, hm⟩ : ∃ m, m = P.length + 1 := ⟨_, rfl⟩; rw [← hm] at hown' ⊢; have HO : RowOf w2 w.heap.size (.slice a2 m c2) m P k s := ⟨fun _ => hown'⟩; have HMM := hide' hm; have hm1 : m ≤ 65536 := (by omega); clear hown' hgrow hm))
        exact ⟨⟨k + 1, P ++ [s[k]], by omega, by rw [List.length_append, List.length_singleton]; omega, by go_num, by rw [List.length_append, List.length_singleton, ← HMM.out]; exact HO.out hlt, hB2, HM hlt⟩, by simp [intOf]; omega⟩
    · have hend : P = rR s f t := by
        have := HR.out
        rw [show (tl s).drop k = [] from drop_end s k hlt, ra_nil, List.append_nil] at this
        exact this
      clear HR
      have hcv : ∀ o, o = P → (convert 50 9 u8).run Tryd.prog wr = .ok (.string ⟨o.toArray⟩) wr := fun o e => by rw [e]; exact conv_row hrow
      have hcv' := hcv (rR s f t) hend.symm
      clear hend hcv
      go_wp2
      go_ret2
      exact ⟨rfl, hB⟩

set_option maxRecDepth 100000 in
set_option maxHeartbeats 2000000 in
theorem rreplace_long (s f t : ByteArray) (w : World) (hs : s.size ≤ 100000) (hf : f.size ≤ 100000) (ht : t.size ≤ 100000) (h1 : 1 ≤ f.size) (hR : 65536 < (rR s f t).length) :
    Calls Tryd.prog 22 #[.string s, .string f, .string t] w fun e w' => e = .returned (.tuple #[.string ⟨#[]⟩, .bool false]) ∧ Below w.heap.size w w' := by
  obtain ⟨i0, hi, hz0, hz1, hz2⟩ := info_parts info5
  have hne : f.toList.isEmpty = false := by
    rw [Lib.toList_data]
    cases h : f.data.toList with
    | nil => exact absurd h (ne_of_size f h1)
    | cons _ _ => rfl
  go_enter Tryd.func22, Tryd.ntmps22
  go_wp2
  go_loopw [8, 9] (fun o i wr => ∃ (k : Nat) (P : List UInt8), k ≤ s.size ∧ P.length ≤ 65536 ∧ i = .int .i64 k ∧ wr.ownsRow w.heap.size 5 1 o P.length (Lib.byteCells P) ∧ Below w.heap.size w wr ∧ Hid (P ++ ra (tl f) (tl t) ((tl s).drop k) = rR s f t)) (fun _ i _ => s.size - (intOf i).toNat)
  case atStart => exact ⟨0, [], Nat.zero_le _, by simp, rfl, World.ownsRow_nil _ _ _ _, Below.refl _ _, rfl⟩
  case round =>
    obtain ⟨k, P, hk, hP, rfl, hrow, hB, HR⟩ := hrel
    have hsz := hB.size
    have h2b : ∀ o, w.heap.size ≤ (wr.alloc o).heap.size := fun o => by simp; omega
    by_cases hlt : k < s.size
    · have kb : ∀ w, Calls Tryd.prog 40 #[.string s, .int .i64 k, .string f] w fun e w' => e = .returned (.bool (f.data.toList.isPrefixOf (s.data.toList.drop k))) ∧ w = w' := fun w => (begins_any s f k w hs hf hk).mono fun e w' ⟨h1, h2⟩ => ⟨h1, h2.symm⟩
      cases hb : f.data.toList.isPrefixOf (s.data.toList.drop k) with
      | true =>
        rw [hb] at kb
        have hroom : k + f.size ≤ s.size := Decidable.byContradiction fun hh => by rw [prefix_far s f k hk hh] at hb; cases hb
        have HR' : Hid ((P ++ tl t) ++ ra (tl f) (tl t) ((tl s).drop (k + f.size)) = rR s f t) := by
          show _ = _
          rw [List.append_assoc, ← ra_step_hit s f t k hlt h1 hb]; exact HR.out
        clear hb HR
        by_cases hP2 : P.length + t.size ≤ 65536
        · clear hR
          go_wp2_with (first | (go_at_call 40; refine (kb _).mono ?_; rintro e w' ⟨rfl, rfl⟩) | (at_builtin; refine Lib.wpList_append_own_string _ rfl _ _ 50 9 rfl w.heap.size 5 i0 Tryd.underlying50 Tryd.underlying9 hi hz0 hz1 hz2 _ _ _ rfl hrow t rfl (by unfold maxLen; omega) (by omega) hsz ?_; intro v' w2 hown' hgrow _; obtain ⟨a2, c2, rfl⟩ := row_form hown'))
          have hB2 := grow_below hB hsz hrow hgrow
          exact ⟨⟨k + f.size, P ++ tl t, by omega, by rw [len_str]; omega, by go_num, by rw [len_str, cells_str]; exact hown', hB2, HR'⟩, by simp [intOf]; omega⟩
        · clear HR' hR
          go_wp2_with (first | (go_at_call 40; refine (kb _).mono ?_; rintro e w' ⟨rfl, rfl⟩) | (at_builtin; refine Lib.wpList_append_own_string _ rfl _ _ 50 9 rfl w.heap.size 5 i0 Tryd.underlying50 Tryd.underlying9 hi hz0 hz1 hz2 _ _ _ rfl hrow t rfl (by unfold maxLen; omega) (by omega) hsz ?_; intro v' w2 hown' hgrow _; obtain ⟨a2, c2, rfl⟩ := row_form hown'))
          have hB2 := grow_below hB hsz hrow hgrow
          go_ret2
          exact ⟨rfl, hB2⟩
      | false =>
        rw [hb] at kb
        have HM := miss_next s f t k P hb HR.out
        clear hb HR
        by_cases hP2 : P.length ≤ 65535
        · clear hR
          go_wp2_with (first | (go_at_call 40; refine (kb _).mono ?_; rintro e w' ⟨rfl, rfl⟩) | (at_builtin; refine wpList_append_own _ rfl _ _ 50 rfl w.heap.size 5 i0 (.int .u8 0) 1 1 Tryd.underlying50 hi hz0 hz1 hz2 rfl (by decide) _ _ _ rfl (hrow.alloc _) ⟨wr.heap.size, 0, none⟩ 1 1 [.int .u8 s[k].toNat] rfl rfl (cell_one_new _ _ _) (by simp [Value.oneCell']) (by unfold maxLen; omega) (by omega) (h2b _) ?_; intro v' w2 hown' hgrow hif; clear hif; obtain ⟨a2, c2, rfl⟩ := row_form hown'; have hB2 := row_alloc_below hB hsz hrow hgrow; rw [← cells_one] at hown'; obtain ⟨m, hm⟩ : ∃ m, m = P.length + 1 := ⟨_, rfl⟩; rw [← hm] at hown' ⊢; have HO : RowOf w2 w.heap.size (.slice a2 m c2) m P k s := ⟨fun _ => hown'⟩; have HMM := hide' hm; have hm1 : m ≤ 65536 := (by omega); clear hown' hgrow hm))
          exact ⟨⟨k + 1, P ++ [s[k]], by omega, by rw [List.length_append, List.length_singleton]; omega, by go_num, by rw [List.length_append, List.length_singleton, ← HMM.out]; exact HO.out hlt, hB2, HM hlt⟩, by simp [intOf]; omega⟩
        · clear HM hR
          go_wp2_with (first | (go_at_call 40; refine (kb _).mono ?_; rintro e w' ⟨rfl, rfl⟩) | (at_builtin; refine wpList_append_own _ rfl _ _ 50 rfl w.heap.size 5 i0 (.int .u8 0) 1 1 Tryd.underlying50 hi hz0 hz1 hz2 rfl (by decide) _ _ _ rfl (hrow.alloc _) ⟨wr.heap.size, 0, none⟩ 1 1 [.int .u8 s[k].toNat] rfl rfl (cell_one_new _ _ _) (by simp [Value.oneCell']) (by unfold maxLen; omega) (by omega) (h2b _) ?_; intro v' w2 hown' hgrow hif; clear hif; obtain ⟨a2, c2, rfl⟩ := row_form hown'; have hB2 := row_alloc_below hB hsz hrow hgrow; rw [← cells_one] at hown'; obtain ⟨m, hm⟩ : ∃ m, m = P.length + 1 := ⟨_, rfl⟩; rw [← hm] at hown' ⊢; have HO : RowOf w2 w.heap.size (.slice a2 m c2) m P k s := ⟨fun _ => hown'⟩; have HMM := hide' hm; have hm1 : 65536 < m := (by omega); clear hown' hgrow hm))
          go_ret2
          exact ⟨rfl, hB2⟩
    · have hend : P = rR s f t := by
        have := HR.out
        rw [show (tl s).drop k = [] from drop_end s k hlt, ra_nil, List.append_nil] at this
        exact this
      clear HR
      rw [← hend] at hR
      omega
end Go.Proofs.YtjfbnjajekedlaaDoor
