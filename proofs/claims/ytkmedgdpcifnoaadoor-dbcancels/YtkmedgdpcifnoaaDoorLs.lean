/- Lists of texts in memory; the contracts of text.Copies and slices.Contains. -/
import Derived.Test.YtkmedgdpcifnoaaDoorMem
import Derived.Test.YtkmedgdpcifnoaaDoorBuild
import Derived.Laws.AppendOwnNone
import Derived.Maps.AppendAt
namespace Go.Proofs.YtkmedgdpcifnoaaDoor
open Go.RowKit Go.Shelf

theorem app_below {w W w1 : World} {base e size : Nat} {v : Value} {k : Nat} {xs : List Value} {tmp : Obj} (hB : Below base w W) (hbase : base ≤ W.heap.size) (hrow : W.ownsRow base e size v k xs) (hgrow : (W.alloc tmp).grownBy w1 v.ownBlock) : Below base w w1 :=
  (hB.alloc hbase tmp).grown hgrow (by simp; omega) fun j ej => own_low hrow j ej
theorem row_form {W : World} {base : Nat} {e : TypeId} {m n : Nat} {v : Value} {xs : List Value} (h : W.ownsRow base e m v n xs) : ∃ a c, v = .slice a n c := by
  rcases h.2 with ⟨rfl, rfl⟩ | ⟨g, cap, _, rfl, _⟩
  · exact ⟨none, 0, rfl⟩
  · exact ⟨_, cap, rfl⟩
abbrev sV (x : Bs) : Value := .string (mk x)
/-- the slice v reads as the texts L -/
def Strs (W : World) (v : Value) (L : List Bs) : Prop :=
  (∃ a c, v = .slice a 0 c ∧ L = []) ∨ ∃ b off cap, v = .slice (some ⟨b, off, none⟩) L.length cap ∧ b < W.heap.size ∧ ∀ j, j < L.length → W.cell? ⟨b, off + j, none⟩ = some (sV (L.getD j []))
/-- .. in a row of the call's own -/
abbrev OwnS (W : World) (base : Nat) (v : Value) (L : List Bs) : Prop := W.ownsRow base 9 1 v L.length (L.map sV)
theorem Strs.nil (W : World) : Strs W (.slice none 0 0) [] := .inl ⟨_, _, rfl, rfl⟩
theorem Strs.form {W : World} {v : Value} {L : List Bs} (h : Strs W v L) : ∃ a c, v = .slice a L.length c := by
  rcases h with ⟨a, c, rfl, rfl⟩ | ⟨b, off, cap, rfl, _⟩
  · exact ⟨_, _, rfl⟩
  · exact ⟨_, _, rfl⟩
theorem Strs.form3 {W : World} {v : Value} {L : List Bs} (h : Strs W v L) : ∃ a n c, v = .slice a n c := by
  obtain ⟨a, c, rfl⟩ := h.form
  exact ⟨_, _, _, rfl⟩
theorem own_form3 {w : World} {B e size n : Nat} {v : Value} {xs : List Value} (h : w.ownsRow B e size v n xs) : ∃ a n c, v = .slice a n c := by
  obtain ⟨a, c, e⟩ := own_len h
  exact ⟨_, _, _, e⟩
theorem Strs.below {W W' : World} {v : Value} {L : List Bs} (h : Strs W v L) (hb : Below W.heap.size W W') : Strs W' v L := by
  rcases h with h | ⟨b, off, cap, e, h3, h4⟩
  · exact .inl h
  · exact .inr ⟨b, off, cap, e, Nat.lt_of_lt_of_le h3 hb.size, fun j hj => (hb.cell (p := ⟨b, off + j, none⟩) h3).trans (h4 j hj)⟩
/-- what is read stays where no string's block is written -/
theorem Strs.kept {W W' : World} {v : Value} {L : List Bs} (h : Strs W v L) (hs : W.heap.size ≤ W'.heap.size) (hk : ∀ b off c, v = .slice (some ⟨b, off, none⟩) L.length c → b < W.heap.size → W'.heap[b]? = W.heap[b]?) : Strs W' v L := by
  rcases h with h | ⟨b, off, cap, e, h3, h4⟩
  · exact .inl h
  · exact .inr ⟨b, off, cap, e, Nat.lt_of_lt_of_le h3 hs, fun j hj => (World.cell?_of_block (a := ⟨b, off + j, none⟩) (hk b off cap e h3)).trans (h4 j hj)⟩
theorem getD_map {β : Type} (L : List Bs) (f : Bs → β) (d : β) (j : Nat) (hj : j < L.length) : (L.map f).getD j d = f (L.getD j []) := by
  rw [List.getD_eq_getElem?_getD, List.getD_eq_getElem?_getD, List.getElem?_map, List.getElem?_eq_getElem hj]; rfl
theorem Strs.of_row {W : World} {base : Nat} {v : Value} {L : List Bs} (h : OwnS W base v L) : Strs W v L := by
  rcases h.2 with ⟨rfl, h0⟩ | ⟨g, cap, cur, rfl, hg, hgb, h1, h2, h3, h4⟩
  · exact .inl ⟨_, _, rfl, List.length_eq_zero_iff.1 h0⟩
  · refine .inr ⟨g, 0, cap, rfl, lt_of_block hgb, fun j hj => ?_⟩
    have hj' : (L.map sV)[j]? = some (sV (L.getD j [])) := by
      rw [List.getElem?_map, List.getD_eq_getElem?_getD, List.getElem?_eq_getElem hj]; rfl
    rw [← h4, List.getElem?_take_of_lt (by omega)] at hj'
    simp only [World.cell?, hgb, Nat.zero_add]
    simpa using hj'
def cpB (x : ByteArray) : ByteArray := x
theorem clone_cp (x : ByteArray) (hx : x.size ≤ 100000000) (w : World) : Calls Tryd.prog 52 #[.string x] w fun e w' => e = .returned (.string (cpB x)) ∧ Below w.heap.size w w' := clone_any x w (by omega)
set_option maxRecDepth 100000 in
set_option maxHeartbeats 2000000 in
theorem copies_some (L : List ByteArray) (b off cap : Nat) (w : World) (hl : L.length ≤ 100000) (hb : b < w.heap.size) (hs : ∀ x ∈ L, x.size ≤ 100000000) (hc : ∀ j, j < L.length → w.cell? ⟨b, off + j, none⟩ = some (.string (L.getD j ⟨#[]⟩))) :
    Calls Tryd.prog 51 #[.slice (some ⟨b, off, none⟩) L.length cap] w fun e w' => ∃ v, e = .returned v ∧ w'.ownsRow w.heap.size 9 1 v L.length ((L.map cpB).map Value.string) ∧ Below w.heap.size w w' := by
  obtain ⟨i0, hi, hz0, hz1, hz2⟩ := info_parts info9
  go_enter Tryd.func51, Tryd.ntmps51
  go_wp2
  go_loopw [8, 3] (fun i l wr => ∃ k : Nat, k ≤ L.length ∧ i = .int .i64 k ∧ wr.ownsRow w.heap.size 9 1 l k (((L.take k).map cpB).map Value.string) ∧ Below w.heap.size w wr) (fun i _ _ => L.length - (intOf i).toNat)
  case atStart => exact ⟨0, Nat.zero_le _, rfl, World.ownsRow_nil _ _ _ _, Below.refl _ _⟩
  case round =>
    obtain ⟨k, hk, rfl, hrow, hB⟩ := hrel
    obtain ⟨a1, c1, rfl⟩ := row_form hrow
    by_cases hlt : k < L.length
    · have cc := (hB.cell (p := ⟨b, off + k, none⟩) hb).trans (hc k hlt)
      have hx : (L.getD k ⟨#[]⟩).size ≤ 100000000 := hs _ (by rw [List.getD_eq_getElem?_getD, List.getElem?_eq_getElem hlt]; exact List.getElem_mem hlt)
      have HT : Hid (((L.take k).map cpB).map Value.string ++ [.string (cpB (L.getD k ⟨#[]⟩))] = ((L.take (k + 1)).map cpB).map Value.string) := by
        show _ = _
        rw [List.take_succ_eq_append_getElem hlt, List.map_append, List.map_append, List.getD_eq_getElem?_getD, List.getElem?_eq_getElem hlt]
        rfl
      generalize L.getD k ⟨#[]⟩ = x at cc hx HT
      have kN := fun w => clone_cp x hx w
      have hsz := hB.size
      have hpb : k + 1 ≤ maxLen := by unfold maxLen; omega
      have hbb : (k + 1) * 16 ≤ 140737488355328 := by omega
      generalize cpB x = y at kN HT
      have HC := hide' hc
      have HS := hide' hs
      have HBB := hide' hb
      clear hc hs hb hx
      go_wp2_with (first | (go_at_call 52; refine (kN _).mono ?_; rintro e w3 ⟨rfl, hb3⟩; have hrow3 := own_below hrow hb3; have hs3 := hb3.size; have h2b : ∀ o, w.heap.size ≤ (w3.alloc o).heap.size := fun o => by simp; omega) | (at_builtin; refine wpList_append_own _ rfl _ _ 25 rfl w.heap.size 9 i0 (.string ⟨#[]⟩) 1 16 Tryd.underlying25 hi hz0 hz1 hz2 rfl (by decide) _ _ _ rfl (hrow3.alloc _) ⟨w3.heap.size, 0, none⟩ 1 1 [.string y] rfl rfl (cell_one_new _ _ _) (by simp [Value.oneCell']) hpb hbb (h2b _) ?_; intro v' w4 hown' hgrow hif; clear hif; obtain ⟨a2, c3, rfl⟩ := row_form hown'; have hB3 := hB.trans (hb3.mono hB.size); have hB4 := app_below hB3 (by omega) hrow3 hgrow; have HO := hide' hown'; clear hown' hgrow))
      exact ⟨⟨k + 1, by omega, by go_num, by rw [← HT.out]; exact HO.out, hB4⟩, by simp [intOf]; omega⟩
    · have hke : L.take k = L := List.take_of_length_le (by omega)
      obtain rfl : k = L.length := by omega
      rw [hke] at hrow
      have HO := hide' hrow
      clear hrow hke hc hs
      go_wp2
      go_ret
      exact ⟨_, rfl, HO.out, hB⟩
theorem copies_nil (a : Option Addr) (cap : Nat) (w : World) :
    Calls Tryd.prog 51 #[.slice a 0 cap] w fun e w' => e = .returned (.slice none 0 0) ∧ w' = w := by
  go_enter Tryd.func51, Tryd.ntmps51
  go_wp2
  go_loopw [8, 3] (fun i l wr => i = .int .i64 0 ∧ l = .slice none 0 0 ∧ wr = w) (fun _ _ _ => 0)
  case atStart => exact ⟨rfl, rfl, rfl⟩
  case round =>
    obtain ⟨rfl, rfl, rfl⟩ := hrel
    go_wp2
    go_ret
    exact ⟨rfl, rfl⟩
theorem copies_any (L : List Bs) (v : Value) (w : World) (hl : L.length ≤ 100000) (hs : ∀ x ∈ L, x.length ≤ 100000000) (h : Strs w v L) :
    Calls Tryd.prog 51 #[v] w fun e w' => ∃ v', e = .returned v' ∧ OwnS w' w.heap.size v' L ∧ Below w.heap.size w w' := by
  rcases h with ⟨a, c, rfl, rfl⟩ | ⟨b, off, cap, rfl, h3, h4⟩
  · exact (copies_nil a c w).mono fun e w' ⟨he, hw⟩ => ⟨_, he, World.ownsRow_nil _ _ _ _, hw ▸ Below.refl _ _⟩
  · have e1 : (L.map mk).length = L.length := List.length_map ..
    have := copies_some (L.map mk) b off cap w (by omega) h3 (fun x hx => by obtain ⟨y, hy, rfl⟩ := List.mem_map.1 hx; rw [mk_size]; exact hs y hy) (fun j hj => by rw [e1] at hj; rw [h4 j hj, getD_map L mk _ j hj])
    rw [e1] at this
    refine this.mono ?_
    rintro e w' ⟨v', he, ho, hb⟩
    refine ⟨v', he, ?_, hb⟩
    have e2 : ((L.map mk).map cpB).map Value.string = L.map sV := by rw [List.map_map, List.map_map]; rfl
    rw [e2] at ho
    exact ho
theorem mk_inj {a b : Bs} (h : mk a = mk b) : a = b := by rw [← tl_mk a, ← tl_mk b, h]
theorem contains_is (L : List Bs) (x : Bs) : Lib.containsS (L.map mk) (mk x) = hasB L x := by
  rw [Bool.eq_iff_iff, Lib.containsS_iff]
  unfold hasB
  rw [List.any_eq_true]
  constructor
  · intro h
    obtain ⟨y, hy, e⟩ := List.mem_map.1 h
    exact ⟨y, hy, by rw [mk_inj e]; simp⟩
  · rintro ⟨y, hy, e⟩
    have e' : y = x := by simpa using e
    exact List.mem_map.2 ⟨y, hy, by rw [e']⟩
theorem contains_any (L : List Bs) (v : Value) (x : Bs) (w : World) (hl : L.length ≤ 100000) (h : Strs w v L) :
    Calls Tryd.prog 49 #[v, sV x] w fun e w' => e = .returned (.bool (hasB L x)) ∧ w' = w := by
  rcases h with ⟨a, c, rfl, rfl⟩ | ⟨b, off, cap, rfl, h3, h4⟩
  · exact Tryd.slices_Contains_string_empty a c (mk x) w
  · have e1 : (L.map mk).length = L.length := List.length_map ..
    have := Tryd.slices_Contains_string b off L.length cap (L.map mk) (mk x) w (by omega) (by omega) (fun j hj => by rw [e1] at hj; rw [h4 j hj, getD_map L mk _ j hj])
    rw [List.take_of_length_le (by omega), contains_is] at this
    exact this
end Go.Proofs.YtkmedgdpcifnoaaDoor
