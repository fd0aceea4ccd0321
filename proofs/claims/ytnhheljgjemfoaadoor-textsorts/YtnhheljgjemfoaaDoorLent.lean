/- Lists of texts that came in, and the contracts of anvillaw1.Big, anvillaw1.Lent and anvillaw1.Stays. -/
import Derived.Test.YtnhheljgjemfoaaDoorGlue
import Derived.Test.YtnhheljgjemfoaaDoorLists
import Derived.Laws.AppendOwnNone
namespace Go.Proofs.YtnhheljgjemfoaaDoor
open Go.RowKit Go.Shelf

/-- the slice v holds the texts L; without a text its address is whatever it is -/
def Strz (W : World) (v : Value) (L : List ByteArray) : Prop := (L = [] ∧ ∃ ad cap, v = .slice (some ad) 0 cap) ∨ Strs W v L
theorem Strz.below {W W' : World} {v : Value} {L : List ByteArray} (h : Strz W v L) (hb : Below W.heap.size W W') : Strz W' v L := by
  rcases h with h | h
  · exact .inl h
  · exact .inr (h.below hb)
theorem Strz.form {W : World} {v : Value} {L : List ByteArray} (h : Strz W v L) : (L = [] ∧ ∃ a cap, v = .slice a 0 cap) ∨
    (0 < L.length ∧ ∃ b off cap, v = .slice (some ⟨b, off, none⟩) L.length cap ∧ b < W.heap.size ∧ ∀ j, j < L.length → W.cell? ⟨b, off + j, none⟩ = some (.string (L.getD j ⟨#[]⟩))) := by
  rcases h with ⟨h, ad, cap, e⟩ | ⟨rfl, rfl⟩ | ⟨b, off, cap, rfl, h1, h2, h3, h4⟩
  · exact .inl ⟨h, some ad, cap, e⟩
  · exact .inl ⟨rfl, none, 0, rfl⟩
  · cases L with
    | nil => exact .inl ⟨rfl, _, cap, rfl⟩
    | cons x r => exact .inr ⟨by simp, b, off, cap, rfl, h3, h4⟩

theorem same_anyz (L : List ByteArray) (v v' : Value) (w : World) (hl : L.length ≤ maxLen) (h : Strz w v L) (h' : Strz w v' L) :
    Calls Tryd.prog 9 #[v, v'] w fun e w' => e = .returned (.bool true) ∧ Below w.heap.size w w' := by
  rcases h.form with ⟨rfl, a, cap, rfl⟩ | ⟨h0, b, off, cap, rfl, h3, h4⟩
  · rcases h'.form with ⟨_, a', cap', rfl⟩ | ⟨h0', _⟩
    · exact (same_nil w a a' cap cap').mono fun e w' ⟨he, q, hq⟩ => ⟨he, hq ▸ below_drewn q⟩
    · simp at h0'
  · rcases h'.form with ⟨rfl, _⟩ | ⟨_, b', off', cap', rfl, h3', h4'⟩
    · simp at h0
    · exact (same_some L b off cap b' off' cap' w hl h4 h4').mono fun e w' ⟨he, q, hq⟩ => ⟨he, hq ▸ below_drewn q⟩
theorem glue_anyz (sep : ByteArray) (L : List ByteArray) (v : Value) (w : World) (hl : L.length ≤ maxLen) (h : Strz w v L) (hj : (jr (tl sep) true L).length ≤ 140737488355328) :
    Calls Tryd.prog 22 #[.string sep, v] w fun e w' => e = .returned (.string ⟨(jr (tl sep) true L).toArray⟩) ∧ Below w.heap.size w w' := by
  rcases h.form with ⟨rfl, a, cap, rfl⟩ | ⟨_, b, off, cap, rfl, h3, h4⟩
  · exact glue_nil sep a cap w
  · exact glue_some sep L b off cap w hl h3 h4 hj

/-- the sum that Big makes -/
def bg : Nat → List ByteArray → Nat
  | n, [] => n
  | n, x :: r => if n ≤ 20000 then bg (n + 1 + x.size) r else n
def tot : List ByteArray → Nat
  | [] => 0
  | x :: r => 1 + x.size + tot r
theorem bg_big (L : List ByteArray) : ∀ n, 20000 < n → bg n L = n := by
  intro n h
  cases L with
  | nil => rfl
  | cons x r => simp only [bg]; rw [if_neg (by omega)]
theorem bg_tot (L : List ByteArray) : ∀ n, bg n L ≤ 20000 → bg n L = n + tot L := by
  induction L with
  | nil => intro n _; simp [bg, tot]
  | cons x r ih =>
    intro n h
    by_cases hn : n ≤ 20000
    · simp only [bg] at h ⊢
      rw [if_pos hn] at h ⊢
      rw [ih _ h]
      simp only [tot]
      omega
    · rw [bg_big _ n (by omega)] at h
      omega
theorem bg_next (L : List ByteArray) (k n : Nat) (h : k < L.length) (hn : n ≤ 20000) : bg n (L.drop k) = bg (n + 1 + (L.getD k ⟨#[]⟩).size) (L.drop (k + 1)) := by
  rw [List.drop_eq_getElem_cons h, List.getD_eq_getElem?_getD, List.getElem?_eq_getElem h]
  simp only [bg]
  rw [if_pos hn]
  rfl

set_option maxHeartbeats 400000 in
theorem big_some (L : List ByteArray) (b off cap : Nat) (w : World) (hl : L.length ≤ 140737488355328) (hx : ∀ j, (L.getD j ⟨#[]⟩).size ≤ 140737488355328) (hc : ∀ j, j < L.length → w.cell? ⟨b, off + j, none⟩ = some (.string (L.getD j ⟨#[]⟩))) :
    Calls Tryd.prog 5 #[.slice (some ⟨b, off, none⟩) L.length cap] w fun e w' => e = .returned (.bool (decide (20000 < bg 0 L))) ∧ w' = w := by
  go_enter Tryd.func5, Tryd.ntmps5
  go_wp2
  go_loop [3, 4] (fun o i => ∃ k n : Nat, k ≤ L.length ∧ n ≤ 140737488400000 ∧ o = .int .i64 n ∧ i = .int .i64 k ∧ Hid (bg n (L.drop k) = bg 0 L)) (fun _ i => L.length - (intOf i).toNat)
  case atStart => exact ⟨0, 0, Nat.zero_le _, by omega, rfl, rfl, rfl⟩
  case round =>
    obtain ⟨k, n, hk, hn, rfl, rfl, HB⟩ := hrel
    by_cases hlt : k < L.length
    · by_cases hn2 : n ≤ 20000
      · have c1 := hc k hlt
        have hsz := hx k
        have HB' : Hid (bg (n + 1 + (L.getD k ⟨#[]⟩).size) (L.drop (k + 1)) = bg 0 L) := by
          show _ = _
          rw [← bg_next L k n hlt hn2]; exact HB.out
        generalize L.getD k ⟨#[]⟩ = x at c1 hsz HB'
        clear HB hc hx
        go_wp2
        exact ⟨⟨k + 1, n + 1 + x.size, by omega, by omega, by go_num, by go_num, HB'⟩, by simp [intOf]; omega⟩
      · have hfin : bg 0 L = n := by rw [← HB.out]; exact bg_big _ n (by omega)
        have HF := hide' hfin
        clear hfin HB hc hx
        go_wp2
        go_ret
        exact ⟨by rw [HF.out]; simp; omega, rfl⟩
    · have hfin : bg 0 L = n := by rw [← HB.out, List.drop_eq_nil_of_le (by omega)]; rfl
      have HF := hide' hfin
      clear hfin HB hc hx
      go_wp2
      go_ret
      exact ⟨by rw [HF.out]; simp; omega, rfl⟩

theorem big_nil (a : Option Addr) (cap : Nat) (w : World) :
    Calls Tryd.prog 5 #[.slice a 0 cap] w fun e w' => e = .returned (.bool false) ∧ w' = w := by
  go_enter Tryd.func5, Tryd.ntmps5
  go_wp2
  go_loop [3, 4] (fun o i => o = .int .i64 0 ∧ i = .int .i64 0) (fun _ _ => 0)
  case atStart => exact ⟨rfl, rfl⟩
  case round =>
    obtain ⟨rfl, rfl⟩ := hrel
    go_wp2
    go_ret
    exact ⟨rfl, rfl⟩
theorem big_any (L : List ByteArray) (v : Value) (w : World) (hl : L.length ≤ 140737488355328) (hx : ∀ j, (L.getD j ⟨#[]⟩).size ≤ 140737488355328) (h : Strz w v L) :
    Calls Tryd.prog 5 #[v] w fun e w' => e = .returned (.bool (decide (20000 < bg 0 L))) ∧ w' = w := by
  rcases h.form with ⟨rfl, a, cap, rfl⟩ | ⟨_, b, off, cap, rfl, h3, h4⟩
  · exact big_nil a cap w
  · exact big_some L b off cap w hl hx h4

/-- the text that Lent lays behind a list -/
abbrev mark : ByteArray := ⟨#[45, 55, 49]⟩
/-- what Lent hands back: a list in memory of its own, the mark behind it -/
def IsLent (W : World) (B : Nat) (v : Value) (L : List ByteArray) : Prop := ∃ g cap, v = .slice (some ⟨g, 0, none⟩) L.length cap ∧ W.ownsRow B 9 1 (.slice (some ⟨g, 0, none⟩) (L.length + 1) cap) (L.length + 1) (L.map Value.string ++ [.string mark])

theorem news_cells (L : List ByteArray) (b off : Nat) (w : World) (h : ∀ j, j < L.length → w.cell? ⟨b, off + j, none⟩ = some (.string (L.getD j ⟨#[]⟩))) : ∀ j u, (L.map Value.string)[j]? = some u → w.cell? ((⟨b, off, none⟩ : Addr).add j) = some u := by
  intro j u hu
  rw [List.getElem?_map] at hu
  have hj : j < L.length := by
    cases hl : L[j]? with
    | none => rw [hl] at hu; cases hu
    | some x => exact (List.getElem?_eq_some_iff.1 hl).1
  have e : (⟨b, off, none⟩ : Addr).add j = ⟨b, off + j, none⟩ := by unfold Addr.add; split <;> simp_all
  rw [e, h j hj, ← hu, List.getElem?_eq_getElem hj, List.getD_eq_getElem?_getD, List.getElem?_eq_getElem hj]
  rfl

theorem row_cap {W : World} {base : Nat} {e : TypeId} {m n cap : Nat} {g : Nat} {xs : List Value} (h : W.ownsRow base e m (.slice (some ⟨g, 0, none⟩) n cap) n xs) : n ≤ cap ∧ cap ≤ 9223372036854775807 := by
  rcases h.2 with ⟨h0, _⟩ | ⟨g', cap', cur, e', _, _, h1, h2, _⟩
  · cases h0
  · cases e'
    exact ⟨h1, h2⟩

set_option maxRecDepth 100000 in
set_option maxHeartbeats 1000000 in
theorem lent_some (L : List ByteArray) (b off cap : Nat) (w : World) (hl : L.length ≤ 100000) (hc : ∀ j, j < L.length → w.cell? ⟨b, off + j, none⟩ = some (.string (L.getD j ⟨#[]⟩))) :
    Calls Tryd.prog 6 #[.slice (some ⟨b, off, none⟩) L.length cap] w fun e w' => ∃ v, e = .returned v ∧ IsLent w' w.heap.size v L ∧ Below w.heap.size w w' := by
  obtain ⟨i0, hi, hz0, hz1, hz2⟩ := info_parts info9
  have hn := news_cells L b off w hc
  have HN := hide' hn
  have q1 : 0 + L.length ≤ maxLen := by unfold maxLen; omega
  have q2 : (0 + L.length) * 16 ≤ 140737488355328 := by omega
  clear hn hc
  have q3 : L.length + 1 ≤ maxLen := by unfold maxLen; omega
  have q4 : (L.length + 1) * 16 ≤ 140737488355328 := by omega
  go_enter Tryd.func6, Tryd.ntmps6
  have tok1 : True := trivial
  go_wp2_with (first | (at_builtin; have _t := tok1; refine wpList_append_own _ rfl _ _ 22 rfl w.heap.size 9 i0 (.string ⟨#[]⟩) 1 16 Tryd.underlying22 hi hz0 hz1 hz2 rfl (by decide) (.slice none 0 0) 0 [] rfl (World.ownsRow_nil _ _ _ _) ⟨b, off, none⟩ L.length cap (L.map Value.string) rfl (by simp) HN.out (by simp [Value.oneCell']) q1 q2 (Nat.le_refl _) ?_; intro v' w2 hown' hgrow hif; clear hif; rw [Nat.zero_add, List.nil_append] at hown'; obtain ⟨a2, c2, rfl⟩ := row_form hown'; have hB2 := grow_below (Below.refl w.heap.size w) (Nat.le_refl _) (World.ownsRow_nil w w.heap.size 9 1) hgrow; have hb2 := hB2.size; clear tok1 hgrow) | (at_builtin; refine wpList_append_own _ rfl _ _ 22 rfl w.heap.size 9 i0 (.string ⟨#[]⟩) 1 16 Tryd.underlying22 hi hz0 hz1 hz2 rfl (by decide) _ L.length (L.map Value.string) rfl (hown'.alloc _) ⟨w2.heap.size, 0, none⟩ 1 1 [.string mark] rfl rfl (cell_one_new _ _ _) (by simp [Value.oneCell']) q3 q4 (by simp; omega) ?_; intro v3 w3 hown3 hgrow3 hif; clear hif; obtain ⟨g3, c3, rfl⟩ := ownsRow_succ hown3; have hB3 := row_alloc_below hB2 hb2 hown' hgrow3; obtain ⟨hc3, hc3'⟩ := row_cap hown3; clear hgrow3 hown'))
  go_ret
  exact ⟨_, rfl, ⟨g3, c3, rfl, hown3⟩, hB3⟩
set_option maxRecDepth 100000 in
set_option maxHeartbeats 1000000 in
theorem lent_zero (ad : Addr) (cap : Nat) (w : World) :
    Calls Tryd.prog 6 #[.slice (some ad) 0 cap] w fun e w' => ∃ v, e = .returned v ∧ IsLent w' w.heap.size v [] ∧ Below w.heap.size w w' := by
  obtain ⟨i0, hi, hz0, hz1, hz2⟩ := info_parts info9
  have HN : Hid (∀ (j : Nat) (u : Value), ([] : List Value)[j]? = some u → w.cell? (ad.add j) = some u) := fun j u hu => by simp at hu
  have q1 : 0 + 0 ≤ maxLen := by unfold maxLen; omega
  have q2 : (0 + 0) * 16 ≤ 140737488355328 := by omega
  have q3 : 0 + 1 ≤ maxLen := by unfold maxLen; omega
  have q4 : (0 + 1) * 16 ≤ 140737488355328 := by omega
  go_enter Tryd.func6, Tryd.ntmps6
  have tok1 : True := trivial
  go_wp2_with (first | (at_builtin; have _t := tok1; refine wpList_append_own _ rfl _ _ 22 rfl w.heap.size 9 i0 (.string ⟨#[]⟩) 1 16 Tryd.underlying22 hi hz0 hz1 hz2 rfl (by decide) (.slice none 0 0) 0 [] rfl (World.ownsRow_nil _ _ _ _) ad 0 cap [] rfl (by simp) HN.out (by simp [Value.oneCell']) q1 q2 (Nat.le_refl _) ?_; intro v' w2 hown' hgrow hif; clear hif; rw [Nat.zero_add, List.nil_append] at hown'; obtain ⟨a2, c2, rfl⟩ := row_form hown'; have hB2 := grow_below (Below.refl w.heap.size w) (Nat.le_refl _) (World.ownsRow_nil w w.heap.size 9 1) hgrow; have hb2 := hB2.size; clear tok1 hgrow) | (at_builtin; refine wpList_append_own _ rfl _ _ 22 rfl w.heap.size 9 i0 (.string ⟨#[]⟩) 1 16 Tryd.underlying22 hi hz0 hz1 hz2 rfl (by decide) _ 0 [] rfl (hown'.alloc _) ⟨w2.heap.size, 0, none⟩ 1 1 [.string mark] rfl rfl (cell_one_new _ _ _) (by simp [Value.oneCell']) q3 q4 (by simp; omega) ?_; intro v3 w3 hown3 hgrow3 hif; clear hif; obtain ⟨g3, c3, rfl⟩ := ownsRow_succ hown3; have hB3 := row_alloc_below hB2 hb2 hown' hgrow3; obtain ⟨hc3, hc3'⟩ := row_cap hown3; clear hgrow3 hown'))
  go_ret
  exact ⟨_, rfl, ⟨g3, c3, rfl, hown3⟩, hB3⟩

set_option maxRecDepth 100000 in
set_option maxHeartbeats 1000000 in
theorem lent_none (w : World) :
    Calls Tryd.prog 6 #[.slice none 0 0] w fun e w' => ∃ v, e = .returned v ∧ IsLent w' w.heap.size v [] ∧ Below w.heap.size w w' := by
  obtain ⟨i0, hi, hz0, hz1, hz2⟩ := info_parts info9
  have q3 : 0 + 1 ≤ maxLen := by unfold maxLen; omega
  have q4 : (0 + 1) * 16 ≤ 140737488355328 := by omega
  have hown' := World.ownsRow_nil w w.heap.size 9 1
  have hB2 := Below.refl w.heap.size w
  have tok1 : True := trivial
  go_enter Tryd.func6, Tryd.ntmps6
  go_wp2_with (first | (at_builtin; have _t := tok1; refine wpList_append_own_none rfl _ _ 22 rfl w.heap.size 9 i0 1 Tryd.underlying22 hi (.slice none 0 0) 0 [] rfl hown' rfl ?_; clear tok1) | (at_builtin; refine wpList_append_own _ rfl _ _ 22 rfl w.heap.size 9 i0 (.string ⟨#[]⟩) 1 16 Tryd.underlying22 hi hz0 hz1 hz2 rfl (by decide) _ 0 [] rfl (hown'.alloc _) ⟨w.heap.size, 0, none⟩ 1 1 [.string mark] rfl rfl (cell_one_new _ _ _) (by simp [Value.oneCell']) q3 q4 (by simp) ?_; intro v3 w3 hown3 hgrow3 hif; clear hif; obtain ⟨g3, c3, rfl⟩ := ownsRow_succ hown3; have hB3 := row_alloc_below hB2 (Nat.le_refl _) hown' hgrow3; obtain ⟨hc3, hc3'⟩ := row_cap hown3; clear hgrow3 hown'))
  go_ret
  exact ⟨_, rfl, ⟨g3, c3, rfl, hown3⟩, hB3⟩

theorem lent_any (L : List ByteArray) (v : Value) (w : World) (hl : L.length ≤ 100000) (h : Strz w v L) :
    Calls Tryd.prog 6 #[v] w fun e w' => ∃ v', e = .returned v' ∧ IsLent w' w.heap.size v' L ∧ Below w.heap.size w w' := by
  rcases h with ⟨rfl, ad, cap, rfl⟩ | ⟨rfl, rfl⟩ | ⟨b, off, cap, rfl, h1, h2, h3, h4⟩
  · exact lent_zero ad cap w
  · exact lent_none w
  · exact lent_some L b off cap w hl h4

theorem IsLent.strs {W : World} {B : Nat} {v : Value} {L : List ByteArray} (h : IsLent W B v L) : Strs W v L := by
  obtain ⟨g, cap, rfl, hrow⟩ := h
  have hr := hrow
  rcases hrow.2 with ⟨h0, _⟩ | ⟨g', cap', cur, e', _, hgb, h1, h2, h3, _⟩
  · cases h0
  · cases e'
    refine .inr ⟨g, 0, cap, rfl, by omega, h2, (Array.getElem?_eq_some_iff.1 hgb).1, fun j hj => ?_⟩
    have := hr.cells (g := g) rfl j (.string (L.getD j ⟨#[]⟩)) (by
      rw [List.getElem?_append_left (by simpa using hj), List.getElem?_map, List.getElem?_eq_getElem hj, List.getD_eq_getElem?_getD, List.getElem?_eq_getElem hj]; rfl)
    have e : (⟨g, 0, none⟩ : Addr).add j = ⟨g, 0 + j, none⟩ := by unfold Addr.add; split <;> simp_all
    rw [e] at this
    exact this
theorem IsLent.last {W : World} {B : Nat} {g cap : Nat} {L : List ByteArray} (hr : W.ownsRow B 9 1 (.slice (some ⟨g, 0, none⟩) (L.length + 1) cap) (L.length + 1) (L.map Value.string ++ [.string mark])) : W.cell? ⟨g, L.length, none⟩ = some (.string mark) := by
  have := hr.cells (g := g) rfl L.length (.string mark) (by rw [List.getElem?_append_right (by simp)]; simp)
  have e : (⟨g, 0, none⟩ : Addr).add L.length = ⟨g, 0 + L.length, none⟩ := by unfold Addr.add; split <;> simp_all
  rw [e, Nat.zero_add] at this
  exact this
theorem IsLent.below {W W' : World} {B : Nat} {v : Value} {L : List ByteArray} (h : IsLent W B v L) (hb : Below W.heap.size W W') : IsLent W' B v L := by
  obtain ⟨g, cap, e, hrow⟩ := h
  exact ⟨g, cap, e, row_below hrow hb⟩

set_option maxHeartbeats 1000000 in
theorem stays_any (L : List ByteArray) (B : Nat) (v v' : Value) (w : World) (hl : L.length ≤ 100000) (h : IsLent w B v L) (h' : Strz w v' L) :
    Calls Tryd.prog 8 #[v, v'] w fun e w' => e = .returned (.bool true) ∧ Below w.heap.size w w' := by
  have hS := h.strs
  have kS := fun x => same_anyz L v v' w (by unfold maxLen; omega) (.inr hS) x
  obtain ⟨g, cap, rfl, hrow⟩ := h
  have hlast := IsLent.last hrow
  obtain ⟨hc1, hc2⟩ := row_cap hrow
  have hv' : ∃ a c, v' = .slice a L.length c := by
    rcases h'.form with ⟨rfl, a, c, rfl⟩ | ⟨_, b, off, c, rfl, _⟩
    · exact ⟨a, c, rfl⟩
    · exact ⟨_, c, rfl⟩
  obtain ⟨a, c, rfl⟩ := hv'
  have kS' := kS h'
  clear kS h' hS hrow
  generalize L.length = n at *
  go_enter Tryd.func8, Tryd.ntmps8
  go_wp2_with (go_at_call 9; refine kS'.mono ?_; rintro e w2 ⟨rfl, hb2⟩)
  go_ret
  exact ⟨rfl, hb2⟩
end Go.Proofs.YtnhheljgjemfoaaDoor
