/- The contract of path.names: a new list of what stands between the slashes, whatever the bytes are. The contracts of path.withoutLast and path.kept: a new list of the names that are left when a path is cleaned. The contracts of path.Clean and path.Parent. -/
import Derived.Test.YtabmnkddmdffkaaGreatDoorAZb
import Derived.Lib.OthersKept
import Derived.Laws.RangeAny
namespace Go.Proofs.YtabmnkddmdffkaaGreatDoor
open Go.RowKit Go.Shelf

theorem get_eq (s : ByteArray) (k : Nat) (h : k < s.size) : s.get! k = s[k] := by
  simp [ByteArray.get!, getElem!_pos, h]
  rfl
theorem decode_cont (s : ByteArray) (pos : Nat) : ∀ j, 1 ≤ j → j < (Utf8.decode s pos).2 → pos + j < s.size ∧ 128 ≤ (s.get! (pos + j)).toNat := by
  intro j h1 h2
  unfold Utf8.decode at h2
  dsimp only at h2
  repeat' split at h2
  all_goals try (exfalso; simp at h2; omega)
  · rename_i _ hc _
    simp only [Bool.and_eq_true, decide_eq_true_eq, beq_iff_eq] at hc
    obtain rfl : j = 1 := by simp at h2; omega
    exact ⟨hc.2.1, by have := hc.2.2; omega⟩
  · rename_i _ _ hc _
    simp only [Bool.and_eq_true, decide_eq_true_eq, beq_iff_eq] at hc
    rcases (by simp at h2; omega : j = 1 ∨ j = 2) with rfl | rfl
    · exact ⟨hc.1.2.1, by have := hc.1.2.2; omega⟩
    · exact ⟨hc.2.1, by have := hc.2.2; omega⟩
  · rename_i _ _ _ hc _
    simp only [Bool.and_eq_true, decide_eq_true_eq, beq_iff_eq] at hc
    rcases (by simp at h2; omega : j = 1 ∨ j = 2 ∨ j = 3) with rfl | rfl | rfl
    · exact ⟨hc.1.1.2.1, by have := hc.1.1.2.2; omega⟩
    · exact ⟨hc.1.2.1, by have := hc.1.2.2; omega⟩
    · exact ⟨hc.2.1, by have := hc.2.2; omega⟩

/-- the piece from a up to k -/
def pc (l : List UInt8) (a k : Nat) : List UInt8 := (l.drop a).take (k - a)
theorem pc_app (l : List UInt8) (a k n : Nat) (ha : a ≤ k) : pc l a (k + n) = pc l a k ++ (l.drop k).take n := by
  unfold pc
  rw [show k + n - a = (k - a) + n by omega, List.take_add, List.drop_drop, show a + (k - a) = k by omega]
theorem drop_split (l : List UInt8) (k n : Nat) : l.drop k = (l.drop k).take n ++ l.drop (k + n) := by
  rw [← List.drop_drop, List.take_append_drop]
theorem drop_at (s : ByteArray) (k : Nat) (h : k < s.size) : (tl s).drop k = s[k] :: (tl s).drop (k + 1) := by
  unfold tl
  rw [List.drop_eq_getElem_cons (by simpa using h)]; rfl
theorem pc_self (l : List UInt8) (k : Nat) : pc l k k = [] := by unfold pc; simp
/-- what holds of the list so far and of the name that is open -/
def NI (l : List UInt8) (L : List (List UInt8)) (a k : Nat) : Prop := L ++ cutg (pc l a k) (l.drop k) = cut l
theorem ni_slash (s : ByteArray) (L : List (List UInt8)) (a k : Nat) (h : k < s.size) (hb : s[k] = 47) (hI : NI (tl s) L a k) : NI (tl s) (L ++ [pc (tl s) a k]) (k + 1) (k + 1) := by
  unfold NI at hI ⊢
  rw [drop_at s k h, hb, cutg, if_pos rfl] at hI
  rw [pc_self, ← hI]
  simp
theorem ni_other (s : ByteArray) (L : List (List UInt8)) (a k n : Nat) (ha : a ≤ k) (hn : 47 ∉ ((tl s).drop k).take n) (hI : NI (tl s) L a k) : NI (tl s) L a (k + n) := by
  unfold NI at hI ⊢
  rw [drop_split (tl s) k n, cutg_word _ _ _ hn] at hI
  rw [pc_app _ _ _ _ ha]
  exact hI
theorem ni_end (s : ByteArray) (L : List (List UInt8)) (a : Nat) (hI : NI (tl s) L a s.size) : L ++ [pc (tl s) a s.size] = cut (tl s) := by
  unfold NI at hI
  rw [List.drop_eq_nil_of_le (by rw [tl_len]; omega)] at hI
  exact hI
theorem no_slash (s : ByteArray) (pos : Nat) (h : pos < s.size) (hne : ¬ s[pos] = 47) : 47 ∉ ((tl s).drop pos).take (Utf8.decode s pos).2 := by
  intro hm
  obtain ⟨j, hj, e⟩ := List.mem_iff_getElem.1 hm
  rw [List.length_take, List.length_drop, tl_len] at hj
  rw [List.getElem_take, List.getElem_drop] at e
  have e2 : s[pos + j]'(by omega) = 47 := e
  by_cases h0 : j = 0
  · subst h0; exact hne e2
  · have := (decode_cont s pos j (by omega) (by omega)).2
    rw [get_eq s (pos + j) (by omega), e2] at this
    exact absurd this (by decide)
theorem width_le (s : ByteArray) (pos : Nat) (h : pos < s.size) : pos + (Utf8.decode s pos).2 ≤ s.size := by
  by_cases h1 : (Utf8.decode s pos).2 ≤ 1
  · omega
  · have := (decode_cont s pos ((Utf8.decode s pos).2 - 1) (by omega) (by omega)).1
    omega
theorem rune_no (s : ByteArray) (pos : Nat) (h : pos < s.size) (hne : ¬ s[pos] = 47) : (((Utf8.decode s pos).1 : Int) == 47) = false ∧ 1 ≤ (Utf8.decode s pos).2 := by
  by_cases ha : (s[pos]'h).toNat < 128
  · rw [decode_ascii s pos h ha]
    exact ⟨beq_no _ 47 47 rfl hne, Nat.le_refl _⟩
  · have := decode_high s pos h (by omega)
    exact ⟨beq_eq_false_iff_ne.2 (by omega), this.2⟩

theorem info9 : (Tryz.prog.info? 9).map (fun i : TypeInfo => (i.zero, i.size, i.bytes)) = some (some (.string ⟨#[]⟩), 1, 16) := by kernel_rfl
theorem row_not {W : World} {base : Nat} {e : TypeId} {m k : Nat} {v : Value} {xs : List Value} (h : W.ownsRow base e m v k xs) {B : Nat} (hB : B < base) : some B ≠ v.ownBlock := by
  rcases h.2 with ⟨rfl, _⟩ | ⟨g, cap, cur, rfl, hg, _⟩
  · simp [Value.ownBlock]
  · simp [Value.ownBlock]; omega
theorem row_mono {W : World} {base base' : Nat} {e : TypeId} {m k : Nat} {v : Value} {xs : List Value} (h : W.ownsRow base e m v k xs) (hb : base' ≤ base) : W.ownsRow base' e m v k xs := by
  refine ⟨h.1, ?_⟩
  rcases h.2 with h0 | ⟨g, cap, cur, h1, h2, h3⟩
  · exact .inl h0
  · exact .inr ⟨g, cap, cur, h1, Nat.le_trans hb h2, h3⟩
theorem row_iter {W : World} {base : Nat} {e : TypeId} {m k : Nat} {v : Value} {xs : List Value} (h : W.ownsRow base e m v k xs) {B : Nat} (hB : B < base) (s : ByteArray) (p : Nat) : (W.iterAt B s p).ownsRow base e m v k xs := by
  refine ⟨h.1, ?_⟩
  rcases h.2 with h0 | ⟨g, cap, cur, h1, h2, h3, h4⟩
  · exact .inl h0
  · exact .inr ⟨g, cap, cur, h1, h2, (Lib.iterAt_other W B g s p (by omega)).trans h3, h4⟩
/-- behind an append onto a list of the call's own -/
theorem app_below {w W w1 : World} {base base' : Nat} {e : TypeId} {v : Value} {k : Nat} {xs : List Value} {tmp : Obj} (hB : Below base w W) (hbb : base ≤ base') (hbase : base ≤ W.heap.size) (hrow : W.ownsRow base' e 1 v k xs) (hgrow : (W.alloc tmp).grownBy w1 v.ownBlock) : Below base w w1 := by
  refine (hB.alloc hbase tmp).grown hgrow (by simp; omega) fun j ej => ?_
  rcases hrow.2 with ⟨rfl, _⟩ | ⟨g, cap, cur, rfl, hb, _, _⟩
  · simp [Value.ownBlock] at ej
  · obtain rfl : g = j := by simpa [Value.ownBlock] using ej
    omega
theorem app_iter {W w1 : World} {base : Nat} {e : TypeId} {v : Value} {k : Nat} {xs : List Value} {tmp : Obj} {B : Nat} {o : Obj} (hit : W.heap[B]? = some o) (hrow : W.ownsRow base e 1 v k xs) (hB : B < base) (hgrow : (W.alloc tmp).grownBy w1 v.ownBlock) : w1.heap[B]? = some o := by
  have hlt : B < W.heap.size := (Array.getElem?_eq_some_iff.1 hit).1
  rw [hgrow.block B (by simp; omega) (row_not hrow hB), Lib.alloc_old W _ B hlt]
  exact hit
theorem row_snoc {W : World} {base : Nat} {v : Value} {L : List (List UInt8)} {x : List UInt8} {y : ByteArray} (hy : y = mk x) (h : W.ownsRow base 9 1 v (L.length + 1) (L.map sv ++ [.string y])) : Row W base v (L ++ [x]) := by
  subst hy
  unfold Row
  rw [List.length_append, List.map_append]
  exact h

set_option maxRecDepth 100000 in
set_option maxHeartbeats 2000000 in
theorem names_any (s : ByteArray) (hs : s.size ≤ 1000000) (w : World) :
    Calls Tryz.prog 105 #[.string s] w fun e W' => ∃ v : Value, e = .returned v ∧ Row W' w.heap.size v (cut (tl s)) ∧ Below w.heap.size w W' := by
  obtain ⟨i0, hi, hz0, hz1, hz2⟩ := info_parts info9
  go_enter Tryz.func105, Tryz.ntmps105
  go_wp2
  go_loopw [3, 4] (fun o f wr => ∃ (pos a : Nat) (L : List (List UInt8)), pos ≤ s.size ∧ a ≤ pos ∧ L.length ≤ pos ∧ f = .int .i64 a ∧ wr.heap[w.heap.size]? = some (.stringIter s pos) ∧ Row wr (w.heap.size + 1) o L ∧ Below w.heap.size w wr ∧ Hid (NI (tl s) L a pos)) (fun _ _ wr => s.size - wr.iterPos w.heap.size)
  case atStart => exact ⟨0, 0, [], Nat.zero_le _, Nat.le_refl _, Nat.le_refl _, rfl, World.iter_heap w s 0, World.ownsRow_nil _ _ _ _, (Below.refl _ w).alloc (Nat.le_refl _) _, rfl⟩
  case round =>
    obtain ⟨pos, a, L, hp, ha, hL, rfl, hit, hrow, hB, HI⟩ := hrel
    have hsz : w.heap.size < wr.heap.size := (Array.getElem?_eq_some_iff.1 hit).1
    have hpb : L.length + 1 ≤ maxLen := by unfold maxLen; omega
    have hbb : (L.length + 1) * 16 ≤ 140737488355328 := by omega
    by_cases hlt : pos < s.size
    · by_cases h47 : s[pos] = 47
      · have hd : Utf8.decode s pos = (47, 1) := by rw [decode_ascii s pos hlt (by rw [h47]; decide), h47]; rfl
        have hnx := fun ty => Lib.run_next_any_at (P := Tryz.prog) wr w.heap.size s pos ty hit hlt
        rw [hd] at hnx
        have hit1 := Lib.iterAt_heap wr w.heap.size s pos (pos + 1) hit
        have hrow1 := row_iter hrow (Nat.lt_succ_self _) s (pos + 1)
        have hB1 := Lib.below_iterAt hB (Nat.le_refl _) s (pos + 1)
        have hs1 : w.heap.size < (wr.iterAt w.heap.size s (pos + 1)).heap.size := by rw [Lib.iterAt_size]; exact hsz
        have HI1 := hide' (ni_slash s L a pos hlt h47 HI.out)
        have hme : wr.iterPos w.heap.size = pos := by simp only [World.iterPos, hit]
        clear hd h47 HI hrow hB
        generalize wr.iterAt w.heap.size s (pos + 1) = W1 at hnx hit1 hrow1 hB1 hs1
        have h2b : ∀ o, w.heap.size + 1 ≤ (W1.alloc o).heap.size := fun o => by simp; omega
        go_wp2_with (at_builtin; refine wpList_append_own _ rfl _ _ 40 rfl (w.heap.size + 1) 9 i0 (.string ⟨#[]⟩) 1 16 Tryz.underlying40 hi hz0 hz1 hz2 rfl (by decide) _ _ _ rfl (hrow1.alloc _) ⟨W1.heap.size, 0, none⟩ 1 1 [.string (s.extract a pos)] rfl rfl (cell_one_new _ _ _) (by simp [Value.oneCell']) hpb hbb (h2b _) ?_; intro v' w2 hown' hgrow hif; clear hif)
        exact ⟨⟨pos + 1, pos + 1, L ++ [pc (tl s) a pos], by omega, Nat.le_refl _, by simp; omega, by go_num, app_iter hit1 hrow1 (Nat.lt_succ_self _) hgrow, row_snoc (ext_mk s a pos) hown', app_below hB1 (Nat.le_succ _) (by omega) hrow1 hgrow, HI1⟩, by rw [hme]; simp only [World.iterPos, app_iter hit1 hrow1 (Nat.lt_succ_self _) hgrow]; omega⟩
      · obtain ⟨hr, hw1⟩ := rune_no s pos hlt h47
        have hw2 := width_le s pos hlt
        have hnx := fun ty => Lib.run_next_any_at (P := Tryz.prog) wr w.heap.size s pos ty hit hlt
        have HI1 := hide' (ni_other s L a pos _ ha (no_slash s pos hlt h47) HI.out)
        have hit1 := Lib.iterAt_heap wr w.heap.size s pos (pos + (Utf8.decode s pos).2) hit
        have hrow1 := row_iter hrow (Nat.lt_succ_self _) s (pos + (Utf8.decode s pos).2)
        have hB1 := Lib.below_iterAt hB (Nat.le_refl _) s (pos + (Utf8.decode s pos).2)
        have hme : wr.iterPos w.heap.size = pos := by simp only [World.iterPos, hit]
        clear h47 HI hrow hB hpb hbb
        generalize wr.iterAt w.heap.size s (pos + (Utf8.decode s pos).2) = W1 at hnx hit1 hrow1 hB1
        generalize (Utf8.decode s pos).2 = wd at hw1 hw2 HI1 hit1
        generalize (Utf8.decode s pos).1 = r at hr hnx
        go_wp2
        exact ⟨⟨pos + wd, a, L, hw2, by omega, by omega, rfl, hit1, hrow1, hB1, HI1⟩, by rw [hme]; simp only [World.iterPos, hit1]; omega⟩
    · obtain rfl : pos = s.size := by omega
      have hnx := fun ty => Lib.run_next_end_at (P := Tryz.prog) wr w.heap.size s s.size ty hit hlt
      have HI1 := hide' (ni_end s L a HI.out)
      have h2b : ∀ o, w.heap.size + 1 ≤ (wr.alloc o).heap.size := fun o => by simp; omega
      clear HI
      go_wp2_with (at_builtin; refine wpList_append_own _ rfl _ _ 40 rfl (w.heap.size + 1) 9 i0 (.string ⟨#[]⟩) 1 16 Tryz.underlying40 hi hz0 hz1 hz2 rfl (by decide) _ _ _ rfl (hrow.alloc _) ⟨wr.heap.size, 0, none⟩ 1 1 [.string (s.extract a s.size)] rfl rfl (cell_one_new _ _ _) (by simp [Value.oneCell']) hpb hbb (h2b _) ?_; intro v' w2 hown' hgrow hif; clear hif)
      go_ret
      exact ⟨_, rfl, by rw [← HI1.out]; exact row_mono (row_snoc (ext_mk s a s.size) hown') (Nat.le_succ _), app_below hB (Nat.le_succ _) (by omega) hrow hgrow⟩
end Go.Proofs.YtabmnkddmdffkaaGreatDoor
namespace Go.Proofs.YtabmnkddmdffkaaGreatDoor
open Go.RowKit Go.Shelf

theorem row_form {W : World} {base : Nat} {v : Value} {K : List (List UInt8)} (h : Row W base v K) (hne : K ≠ []) : ∃ g cap, v = .slice (some ⟨g, 0, none⟩) K.length cap ∧ K.length ≤ cap ∧ cap ≤ maxLen ∧ g < W.heap.size ∧ (∀ j, j < K.length → W.cell? ⟨g, j, none⟩ = some (sv (K.getD j []))) ∧ Row W base (.slice (some ⟨g, 0, none⟩) (K.length - 1) cap) K.dropLast := by
  have h0 := h
  rcases Strs.of_row h with ⟨_, e⟩ | _
  · exact absurd e hne
  · rcases h.2 with ⟨rfl, e0⟩ | ⟨g, cap, cur, rfl, hg, hgb, h1, h2, h3, h4⟩
    · exact absurd (List.length_eq_zero_iff.1 e0) hne
    · have hlt := (Array.getElem?_eq_some_iff.1 hgb).1
      refine ⟨g, cap, rfl, h1, h2, hlt, fun j hj => ?_, ?_⟩
      · have hj' : (K.map sv)[j]? = some (sv (K.getD j [])) := by
          rw [List.getElem?_map, List.getD_eq_getElem?_getD, List.getElem?_eq_getElem hj]; rfl
        rw [← h4, List.getElem?_take_of_lt (by omega)] at hj'
        simp only [World.cell?, hgb]
        simpa using hj'
      · refine ⟨?_, .inr ⟨g, cap, cur, ?_, hg, hgb, ?_, h2, h3, ?_⟩⟩
        · simp
        · rw [List.length_dropLast]
        · rw [List.length_dropLast]; omega
        · have hl : cur.toList.length = cur.size := by simp
          rw [List.length_dropLast, List.map_dropLast, ← h4, List.dropLast_eq_take, List.take_take, List.length_take, hl, h3]
          congr 1
          omega

set_option maxHeartbeats 400000 in
theorem without_some (g n cap : Nat) (w : World) (h0 : 0 < n) (h1 : n ≤ cap) (h2 : cap ≤ maxLen) :
    Calls Tryz.prog 106 #[.slice (some ⟨g, 0, none⟩) n cap] w fun e w' => e = .returned (.slice (some ⟨g, 0, none⟩) (n - 1) cap) ∧ w' = w := by
  unfold maxLen at h2
  obtain ⟨m, rfl⟩ : ∃ m, n = m + 1 := ⟨n - 1, by omega⟩
  go_enter Tryz.func106, Tryz.ntmps106
  go_wp2
  go_ret
  exact ⟨by simp, rfl⟩

theorem cut_ne (l : List UInt8) : cut l ≠ [] := by
  intro e
  have := cut_tw l
  rw [e] at this
  simp [tw] at this
theorem keep_next (K : List (List UInt8)) (k : Nat) (h : k < K.length) : keep [] (K.take (k + 1)) = kstep (keep [] (K.take k)) (K.getD k []) := by
  rw [List.take_succ_eq_append_getElem h, keep_append, List.getD_eq_getElem?_getD, List.getElem?_eq_getElem h]
  rfl
theorem cut_len (l : List UInt8) : (cut l).length ≤ l.length + 1 := by have := len_tw (cut l); rwa [cut_tw] at this
theorem k_skip (M : List (List UInt8)) (x : List UInt8) (h : x = [] ∨ x = [46]) : kstep M x = M := by unfold kstep; rw [if_pos h]
theorem k_back (M : List (List UInt8)) : kstep M [46, 46] = M.dropLast := by unfold kstep; rw [if_neg (by decide), if_pos rfl]
theorem k_more (M : List (List UInt8)) (x : List UInt8) (h1 : x ≠ []) (h2 : x ≠ [46]) (h3 : x ≠ [46, 46]) : kstep M x = M ++ [x] := by unfold kstep; rw [if_neg (by intro e; rcases e with e | e; exact h1 e; exact h2 e), if_neg h3]
theorem mk_ne (x y : List UInt8) (h : x ≠ y) : mk x ≠ mk y := fun e => h (by rw [← tl_mk x, e, tl_mk])

set_option maxRecDepth 100000 in
set_option maxHeartbeats 2000000 in
theorem kept_any (s : ByteArray) (hs : s.size ≤ 500000) (w : World) :
    Calls Tryz.prog 75 #[.string s] w fun e W' => ∃ v : Value, e = .returned v ∧ Row W' w.heap.size v (kpt (tl s)) ∧ Below w.heap.size w W' := by
  obtain ⟨i0, hi, hz0, hz1, hz2⟩ := info_parts info9
  go_enter Tryz.func75, Tryz.ntmps75
  go_wp2_with fail
  refine (names_any s (by omega) _).mono ?_
  rintro e w1 ⟨v1, rfl, hrow1, hB1⟩
  have hKl := cut_len (tl s)
  rw [tl_len] at hKl
  obtain ⟨g, cap, rfl, hc1, hc2, hg, hcell, _⟩ := row_form hrow1 (cut_ne _)
  clear hrow1
  have HK : Hid (keep [] (cut (tl s)) = kpt (tl s)) := rfl
  generalize cut (tl s) = K at hKl hc1 hcell HK
  have HC := hide' hcell
  clear hcell
  have hsz1 := hB1.size
  go_wp2
  go_loopw [3, 9] (fun o i wr => ∃ (k : Nat) (M : List (List UInt8)), k ≤ K.length ∧ i = .int .i64 k ∧ M.length ≤ k ∧ Row wr w1.heap.size o M ∧ Below w1.heap.size w1 wr ∧ Hid (M = keep [] (K.take k))) (fun _ i _ => K.length - (intOf i).toNat)
  case atStart => exact ⟨0, [], Nat.zero_le _, rfl, Nat.le_refl _, World.ownsRow_nil _ _ _ _, Below.refl _ _, rfl⟩
  case round =>
    obtain ⟨k, M, hk, rfl, hM, hrow, hB, HM⟩ := hrel
    have hsz := hB.size
    by_cases hlt : k < K.length
    · have c1 := (hB.cell (p := ⟨g, k, none⟩) hg).trans (HC.out k hlt)
      have hnx := keep_next K k hlt
      rw [← HM.out] at hnx
      generalize K.getD k [] = x at c1 hnx
      by_cases h1 : x = []
      · subst h1
        rw [k_skip M [] (.inl rfl)] at hnx
        have HN := hide' hnx
        clear hnx HM
        go_wp2
        exact ⟨⟨k + 1, M, by omega, by go_num, by omega, hrow, hB, HN.out.symm⟩, by simp [intOf]; omega⟩
      by_cases h2 : x = [46]
      · subst h2
        rw [k_skip M [46] (.inr rfl)] at hnx
        have HN := hide' hnx
        clear hnx HM
        go_wp2
        exact ⟨⟨k + 1, M, by omega, by go_num, by omega, hrow, hB, HN.out.symm⟩, by simp [intOf]; omega⟩
      by_cases h3 : x = [46, 46]
      · subst h3
        rw [k_back] at hnx
        have HN := hide' hnx
        clear hnx HM h1 h2
        by_cases hM0 : M = []
        · subst hM0
          have hv : ∃ a c, u3 = .slice a 0 c := by
            rcases hrow.2 with ⟨rfl, _⟩ | ⟨g, cap, cur, rfl, _⟩
            · exact ⟨_, _, rfl⟩
            · exact ⟨_, _, rfl⟩
          obtain ⟨a, c, rfl⟩ := hv
          go_wp2
          exact ⟨⟨k + 1, [], by omega, by go_num, by simp, hrow, hB, HN.out.symm⟩, by simp [intOf]; omega⟩
        · obtain ⟨g2, cap2, rfl, d1, d2, _, _, hrow2⟩ := row_form hrow hM0
          have hpos : 0 < M.length := List.length_pos_iff.2 hM0
          clear hrow
          go_wp2_with (go_at_call 106; refine (without_some g2 M.length cap2 _ hpos d1 d2).mono ?_; rintro e w' ⟨rfl, rfl⟩)
          exact ⟨⟨k + 1, M.dropLast, by omega, by go_num, by rw [List.length_dropLast]; omega, hrow2, hB, HN.out.symm⟩, by simp [intOf]; omega⟩
      · rw [k_more M x h1 h2 h3] at hnx
        have HN := hide' hnx
        have hpb : M.length + 1 ≤ maxLen := by unfold maxLen; omega
        have hbb : (M.length + 1) * 16 ≤ 140737488355328 := by omega
        have h2b : ∀ o, w1.heap.size ≤ (wr.alloc o).heap.size := fun o => by simp; omega
        have j1 : x.isEmpty = false := by cases x with
          | nil => exact absurd rfl h1
          | cons _ _ => rfl
        have j2 : (x == [46]) = false := beq_eq_false_iff_ne.2 h2
        have j3 : (x == [46, 46]) = false := beq_eq_false_iff_ne.2 h3
        clear hnx HM h1 h2 h3
        go_wp2_with (at_builtin; refine wpList_append_own _ rfl _ _ 40 rfl w1.heap.size 9 i0 (.string ⟨#[]⟩) 1 16 Tryz.underlying40 hi hz0 hz1 hz2 rfl (by decide) _ _ _ rfl (hrow.alloc _) ⟨wr.heap.size, 0, none⟩ 1 1 [sv x] rfl rfl (cell_one_new _ _ _) (by simp [Value.oneCell']) hpb hbb (h2b _) ?_; intro v' w2 hown' hgrow hif; clear hif)
        exact ⟨⟨k + 1, M ++ [x], by omega, by go_num, by simp; omega, row_snoc rfl hown', app_below hB (Nat.le_refl _) hsz hrow hgrow, HN.out.symm⟩, by simp [intOf]; omega⟩
    · have hke : K.take k = K := List.take_of_length_le (by omega)
      have HF : Hid (M = kpt (tl s)) := by show _ = _; rw [HM.out, hke]; exact HK.out
      clear hke HM HK
      go_wp2
      go_ret
      exact ⟨_, rfl, by rw [← HF.out]; exact row_mono hrow hsz1, hB1.trans (hB.mono hsz1)⟩
end Go.Proofs.YtabmnkddmdffkaaGreatDoor
namespace Go.Proofs.YtabmnkddmdffkaaGreatDoor
open Go.RowKit Go.Shelf

theorem kpt_tw' (s : ByteArray) (hs : s.size ≤ 500000) : tw (kpt (tl s)) ≤ 1000000 := by have := kpt_tw (tl s); rw [tl_len] at this; omega
theorem clean_size (s : ByteArray) (hs : s.size ≤ 400000) : (mk (clean (tl s))).size ≤ 500000 := by rw [mk_size]; have := clean_len (tl s); rw [tl_len] at this; omega
set_option maxHeartbeats 400000 in
theorem clean_any (s : ByteArray) (hs : s.size ≤ 500000) (w : World) :
    Calls Tryz.prog 46 #[.string s] w fun e w' => e = .returned (.string (mk (clean (tl s)))) ∧ Below w.heap.size w w' := by
  have ht := kpt_tw' s hs
  go_enter Tryz.func46, Tryz.ntmps46
  go_wp2_with fail
  refine (kept_any s hs _).mono ?_
  rintro e w1 ⟨v, rfl, hrow, hB⟩
  have hS := Strs.of_row hrow
  have hj := join_any _ _ _ hS ht
  have hcl : sl true (kpt (tl s)) = clean (tl s) := rfl
  rw [hcl] at hj
  clear hrow hS hcl
  go_wp2_with fail
  refine hj.mono ?_
  rintro e w2 ⟨rfl, hB2⟩
  go_wp2
  go_ret
  exact ⟨rfl, hB.trans (hB2.mono hB.size)⟩

def parent (l : List UInt8) : List UInt8 := sl true (kpt l).dropLast
def last (l : List UInt8) : List UInt8 := (kpt l).getLastD []
set_option maxHeartbeats 400000 in
theorem parent_any (s : ByteArray) (hs : s.size ≤ 500000) (w : World) :
    Calls Tryz.prog 78 #[.string s] w fun e w' => e = .returned (.string (mk (parent (tl s)))) ∧ Below w.heap.size w w' := by
  have ht := kpt_tw' s hs
  have HP : Hid (parent (tl s) = sl true (kpt (tl s)).dropLast) := rfl
  go_enter Tryz.func78, Tryz.ntmps78
  go_wp2_with fail
  refine (kept_any s hs _).mono ?_
  rintro e w1 ⟨v, rfl, hrow, hB⟩
  by_cases h0 : kpt (tl s) = []
  · rw [h0] at hrow HP
    have hv : ∃ a c, v = .slice a 0 c := by
      rcases hrow.2 with ⟨rfl, _⟩ | ⟨g, cap, cur, rfl, _⟩
      · exact ⟨_, _, rfl⟩
      · exact ⟨_, _, rfl⟩
    obtain ⟨a, c, rfl⟩ := hv
    clear h0 hrow ht
    go_wp2
    go_ret
    exact ⟨ret_str (by rw [HP.out]; rfl), hB⟩
  · obtain ⟨g, cap, rfl, d1, d2, _, _, hrow2⟩ := row_form hrow h0
    have hpos : 0 < (kpt (tl s)).length := List.length_pos_iff.2 h0
    have ht2 : tw (kpt (tl s)).dropLast ≤ 1000000 := Nat.le_trans (tw_dropLast _) ht
    have hj := join_any _ _ _ (Strs.of_row hrow2) ht2
    rw [← HP.out] at hj
    generalize (kpt (tl s)).length = n at hpos d1 hj
    clear hrow hrow2 ht h0 ht2 HP
    have hz : ((n : Int) == 0) = false := beq_eq_false_iff_ne.2 (by omega)
    go_wp2_with fail
    refine (without_some g n cap _ hpos d1 d2).mono ?_
    rintro e w1' ⟨rfl, rfl⟩
    go_wp2_with fail
    refine hj.mono ?_
    rintro e w2 ⟨rfl, hB2⟩
    go_wp2
    go_ret
    exact ⟨rfl, hB.trans (hB2.mono hB.size)⟩

end Go.Proofs.YtabmnkddmdffkaaGreatDoor
