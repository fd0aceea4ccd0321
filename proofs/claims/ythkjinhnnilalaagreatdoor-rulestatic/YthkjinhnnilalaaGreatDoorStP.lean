/- What rule.Make tells of the law's sides: plain words, and the three calls. -/
import Derived.Test.YthkjinhnnilalaaGreatDoorMk3
namespace Go.Proofs.YthkjinhnnilalaaGreatDoor
open Go.RowKit Go.Shelf

/-- words, a blank ahead of each -/
def flat (W : List Bs) : Bs := W.flatMap fun x => 32 :: x
theorem flat_app (A B : List Bs) : flat (A ++ B) = flat A ++ flat B := by unfold flat; rw [List.flatMap_append]
theorem words_flat : ∀ W : List Bs, (∀ x ∈ W, x ≠ [] ∧ ∀ c ∈ x, bl c = false) → Tx.words (flat W) = W
  | [], _ => rfl
  | x :: W, h => by
    obtain ⟨hne, hb⟩ := h x (List.mem_cons_self ..)
    have ih := words_flat W (fun y hy => h y (List.mem_cons_of_mem _ hy))
    obtain ⟨c, r, rfl⟩ : ∃ c r, x = c :: r := by
      cases x with
      | nil => exact absurd rfl hne
      | cons c r => exact ⟨c, r, rfl⟩
    have e : flat ((c :: r) :: W) = 32 :: ((c :: r) ++ flat W) := rfl
    have hn : ∀ a ∈ c :: r, Tx.nb a = true := fun a ha => by unfold Tx.nb; rw [show Tx.bl a = bl a from rfl, hb a ha]; rfl
    have hf : (flat W).takeWhile Tx.nb = [] ∧ (flat W).dropWhile Tx.nb = flat W := by
      cases W with
      | nil => exact ⟨rfl, rfl⟩
      | cons y W => exact ⟨rfl, rfl⟩
    rw [e, Tx.words_blank 32 _ rfl, List.cons_append, Tx.words_word c _ (hb c (List.mem_cons_self ..)), ← List.cons_append, List.takeWhile_append_of_pos hn, List.dropWhile_append_of_pos hn, hf.1, hf.2, List.append_nil, ih]
/-- a word that the law makes -/
def okW (x : Bs) : Prop := x ≠ [] ∧ (∀ c ∈ x, bl c = false ∧ c ≠ 40) ∧ x.getD 0 0 ≠ 46
theorem ib_none (k : UInt8) : ∀ l : Bs, (∀ c ∈ l, c ≠ k) → Lib.indexByte l k = -1
  | [], _ => rfl
  | c :: r, h => by
    have ih := ib_none k r (fun x hx => h x (List.mem_cons_of_mem _ hx))
    have hc : (c == k) = false := beq_eq_false_iff_ne.2 (h c (List.mem_cons_self ..))
    unfold Lib.indexByte
    rw [hc, ih]
    rfl
theorem opn_none (l : Bs) (h : ∀ c ∈ l, c ≠ 37) : Pt.opn l = false := by
  have h1 := Pt.index_fp l
  rw [ib_none 37 l h] at h1
  cases ho : Pt.opn l with
  | false => rfl
  | true => rw [ho, if_pos rfl] at h1; omega
theorem nm_id (x : ByteArray) (h : okW (tl x)) : nmB x = x := by
  have hp : Lib.hasPrefix (tl x) [46, 47] = false := by
    cases hq : Lib.hasPrefix (tl x) [46, 47] with
    | false => rfl
    | true =>
      obtain ⟨t, ht⟩ := (List.isPrefixOf_iff_prefix.1 hq : [46, 47] <+: tl x)
      exact absurd (by rw [← ht]; rfl) h.2.2
  have h1 : nmL x.size (tl x) = tl x := by
    cases hs : x.size with
    | zero => rfl
    | succ n => unfold nmL; rw [hp]; rfl
  unfold nmB
  rw [h1]
  unfold nmE
  cases hq : tl x with
  | nil => exact absurd hq h.1
  | cons c r => rw [if_neg (by simp), ← hq, mk_tl]
theorem map_nm (W : List Bs) (h : ∀ x ∈ W, okW x) : (W.map mk).map nmB = W.map mk := by
  rw [List.map_map]
  refine List.map_congr_left fun x hx => ?_
  exact nm_id (mk x) (by rw [tl_mk]; exact h x hx)
theorem wds_flat (t : ByteArray) (W : List Bs) (h : ∀ x ∈ W, okW x) (ht : tl t = flat W) : wds (tl t) = W.map mk := by
  unfold wds
  rw [ht, words_flat W (fun x hx => ⟨(h x hx).1, fun c hc => ((h x hx).2.1 c hc).1⟩)]
theorem nbr_W (W : List Bs) (h : ∀ x ∈ W, okW x) : ∀ x ∈ W.map mk, nbr (tl x) := by
  intro x hx
  obtain ⟨y, hy, rfl⟩ := List.mem_map.1 hx
  rw [tl_mk]
  exact ib_none 40 y fun c hc => ((h y hy).2.1 c hc).2
/-- a stem of small letters -/
def low (s : ByteArray) : Prop := ∀ c ∈ tl s, 97 ≤ c.toNat ∧ c.toNat ≤ 122
def wdx (s : ByteArray) : Bs := 120 :: (tl s ++ [46, 111])
theorem low_byte {c : UInt8} (h : 97 ≤ c.toNat ∧ c.toNat ≤ 122) : bl c = false ∧ c ≠ 40 ∧ c ≠ 37 := by
  refine ⟨?_, ?_, ?_⟩
  · unfold bl
    simp
    omega
  · rintro rfl; have := h.1; simp at this
  · rintro rfl; have := h.1; simp at this
theorem wdx_ok (s : ByteArray) (h : low s) : okW (wdx s) := by
  refine ⟨by unfold wdx; simp, fun c hc => ?_, by show (120 : UInt8) ≠ 46; decide⟩
  unfold wdx at hc
  rcases List.mem_cons.1 hc with rfl | hc
  · decide
  rcases List.mem_append.1 hc with hc | hc
  · exact ⟨(low_byte (h c hc)).1, (low_byte (h c hc)).2.1⟩
  · rcases (by simpa using hc : c = 46 ∨ c = 111) with rfl | rfl <;> decide
theorem wdx_37 (s : ByteArray) (h : low s) : Pt.opn (wdx s) = false := by
  refine opn_none _ fun c hc => ?_
  unfold wdx at hc
  rcases List.mem_cons.1 hc with rfl | hc
  · decide
  rcases List.mem_append.1 hc with hc | hc
  · exact (low_byte (h c hc)).2.2
  · rcases (by simpa using hc : c = 46 ∨ c = 111) with rfl | rfl <;> decide
abbrev stX : ByteArray := ⟨#[120, 37, 46, 111]⟩
theorem wdx_mt (s : ByteArray) : (Pt.mt (tl stX) (wdx s)).2 = true := by
  have := Pt.mt_app [120] [46, 111] (tl s) (by decide)
  rw [show tl stX = [120] ++ 37 :: [46, 111] from rfl, show wdx s = [120] ++ (tl s ++ [46, 111]) from rfl, this]
abbrev yW : Bs := [121, 46, 111]
abbrev pW : Bs := [37, 46, 111]
theorem y_ok : okW yW := by unfold okW; decide
theorem p_ok : okW pW := by unfold okW; decide
theorem wdx_all (L : List ByteArray) (h : ∀ s ∈ L, low s) : ∀ x ∈ L.map wdx, okW x := fun x hx => by
  obtain ⟨s, hs, rfl⟩ := List.mem_map.1 hx
  exact wdx_ok s (h s hs)
theorem gd_map (L : List ByteArray) (Z : List Bs) (j : Nat) (h : j < L.length) : ((L.map wdx ++ Z).map mk).getD j ⟨#[]⟩ = mk (wdx (L.getD j ⟨#[]⟩)) := by
  rw [List.getD_eq_getElem?_getD, List.getElem?_map, List.getElem?_append_left (by rw [List.length_map]; exact h), List.getElem?_map, List.getElem?_eq_getElem h, List.getD_eq_getElem?_getD, List.getElem?_eq_getElem h]
  rfl
theorem gd_low (L : List ByteArray) (h : ∀ s ∈ L, low s) (j : Nat) (hj : j < L.length) : low (L.getD j ⟨#[]⟩) := by
  rw [List.getD_eq_getElem?_getD, List.getElem?_eq_getElem hj]
  exact h _ (List.getElem_mem hj)
theorem gd_end (L : List ByteArray) (z : Bs) (Z : List Bs) : ((L.map wdx ++ z :: Z).map mk).getD L.length ⟨#[]⟩ = mk z := by
  rw [List.getD_eq_getElem?_getD, List.getElem?_map, List.getElem?_append_right (by rw [List.length_map]; exact Nat.le_refl _), List.length_map, Nat.sub_self]
  rfl
abbrev RT : ByteArray := ⟨#[120, 37, 46, 111, 58, 32, 37, 46, 99, 32, 37, 46, 104, 32, 124, 32, 100, 47, 37]⟩
abbrev RW : List ByteArray := [⟨#[120, 37, 46, 111, 58]⟩, ⟨#[37, 46, 99]⟩, ⟨#[37, 46, 104]⟩, ⟨#[124]⟩, ⟨#[100, 47, 37]⟩]
theorem rw_is : wds (tl RT) = RW := by kernel_rfl
theorem rw_nbr : ∀ x ∈ RW, nbr (tl x) := fun x hx => by
  rcases (by simpa using hx : x = ⟨#[120, 37, 46, 111, 58]⟩ ∨ x = ⟨#[37, 46, 99]⟩ ∨ x = ⟨#[37, 46, 104]⟩ ∨ x = ⟨#[124]⟩ ∨ x = ⟨#[100, 47, 37]⟩) with rfl | rfl | rfl | rfl | rfl <;> (unfold nbr; kernel_rfl)
theorem col_x : ColP ⟨#[120, 37, 46, 111, 58]⟩ stX := ⟨by decide, by unfold nbr; kernel_rfl, by decide, by kernel_rfl, by kernel_rfl, by kernel_rfl, by kernel_rfl⟩
theorem size_map (W : List Bs) (n : Nat) (h : ∀ x ∈ W, x.length ≤ n) : ∀ x ∈ W.map mk, x.size ≤ n := fun x hx => by
  obtain ⟨y, hy, rfl⟩ := List.mem_map.1 hx
  rw [mk_size]
  exact h y hy
set_option maxRecDepth 100000 in
theorem m1_ok (t : ByteArray) (L : List ByteArray) (hL : 0 < L.length) (hlow : ∀ s ∈ L, low s) (hsz : ∀ s ∈ L, s.size ≤ 100) (ht : tl t = flat (L.map wdx)) (hts : t.size ≤ 100000) (w : World) :
    Calls Tryz.prog 14 #[.string t, .string RT, .bool false] w fun e w' => (∃ b cap g3 a1 c1 a2 c2, e = .returned (.tuple #[.agg #[.slice (some ⟨b, 0, none⟩) L.length cap, .slice (some ⟨g3, 0, none⟩) 2 2, .slice a1 1 c1, .bool false, .bool false, .bool false, .string stX, .slice none 0 0, .bool false, .string ⟨#[]⟩, .bool false], .slice a2 L.length c2, .int .i64 0])) ∧ Below w.heap.size w w' := by
  have hW := wdx_all L hlow
  have h := make_static2 t RT ((L.map wdx).map mk) RW [⟨#[37, 46, 99]⟩, ⟨#[37, 46, 104]⟩, ⟨#[124]⟩, ⟨#[100, 47, 37]⟩] ⟨#[120, 37, 46, 111, 58]⟩ stX stX 2 w rfl hts (by decide) (wds_flat t _ hW ht) rw_is (by simpa using hL) (nbr_W _ hW) (fun x hx => by
    rw [map_nm _ hW] at hx
    obtain ⟨y, hy, rfl⟩ := List.mem_map.1 hx
    obtain ⟨s, hs, rfl⟩ := List.mem_map.1 hy
    rw [tl_mk, mk_size]
    refine ⟨?_, wdx_mt s, wdx_37 s (hlow s hs)⟩
    have := hsz s hs
    unfold wdx
    simp [tl_len]
    omega) (by decide) rw_nbr rfl col_x (by kernel_rfl) (by decide) (by kernel_rfl) (by decide) (by kernel_rfl) (fun j hj => by
    rcases (by omega : j = 0 ∨ j = 1) with rfl | rfl <;> decide +kernel)
  rw [List.length_map, List.length_map] at h
  exact h
set_option maxRecDepth 100000 in
theorem m1_bad (t : ByteArray) (L : List ByteArray) (hlow : ∀ s ∈ L, low s) (hsz : ∀ s ∈ L, s.size ≤ 100) (ht : tl t = flat (L.map wdx ++ [yW])) (hts : t.size ≤ 100000) (w : World) :
    Calls Tryz.prog 14 #[.string t, .string RT, .bool false] w fun e w' => e = .returned (.tuple #[.agg #[.slice none 0 0, .slice none 0 0, .slice none 0 0, .bool false, .bool false, .bool false, .string ⟨#[]⟩, .slice none 0 0, .bool false, .string ⟨#[]⟩, .bool false], .slice none 0 0, .int .i64 55]) ∧ Below w.heap.size w w' := by
  have hW : ∀ x ∈ L.map wdx ++ [yW], okW x := fun x hx => by
    rcases List.mem_append.1 hx with h | h
    · exact wdx_all L hlow x h
    · rw [List.mem_singleton] at h; rw [h]; exact y_ok
  refine make_err t RT ((L.map wdx ++ [yW]).map mk) RW false w hts (by decide) (wds_flat t _ hW ht) rw_is (by simp) (nbr_W _ hW) (by decide) rw_nbr ?_
  intro D b cap g capR W hD hb hbD hc hcR hlR hlL hsR hcc
  rw [map_nm _ hW] at hD hc
  exact settle_head_bad D _ RW L.length b cap g capR ⟨#[120, 37, 46, 111, 58]⟩ stX stX W hD (by simp) hlL hb hbD ⟨⟨by simp, fun j hj => by
    rw [gd_map L [yW] j hj, tl_mk, mk_size]
    refine ⟨?_, wdx_mt _, wdx_37 _ (gd_low L hlow j hj)⟩
    have h1 : (L.getD j ⟨#[]⟩).size ≤ 100 := by
      rw [List.getD_eq_getElem?_getD, List.getElem?_eq_getElem hj]
      exact hsz _ (List.getElem_mem hj)
    unfold wdx
    simp only [List.length_cons, List.length_append, tl_len, List.length_nil]
    omega⟩, by
    rw [gd_end L yW []]
    exact ⟨by decide, by kernel_rfl⟩⟩ hc (by decide) hlR hcR hcc rfl col_x (by kernel_rfl) (by decide) (by kernel_rfl)
set_option maxRecDepth 100000 in
theorem m2_bad (t : ByteArray) (W0 : List Bs) (hne : 0 < W0.length) (hok : ∀ x ∈ W0, okW x ∧ Pt.opn x = false) (ht : tl t = flat (W0 ++ [pW])) (hts : t.size ≤ 100000) (w : World) :
    Calls Tryz.prog 14 #[.string t, .string ⟨#[97]⟩, .bool false] w fun e w' => e = .returned (.tuple #[.agg #[.slice none 0 0, .slice none 0 0, .slice none 0 0, .bool false, .bool false, .bool false, .string ⟨#[]⟩, .slice none 0 0, .bool false, .string ⟨#[]⟩, .bool false], .slice none 0 0, .int .i64 55]) ∧ Below w.heap.size w w' := by
  have hW : ∀ x ∈ W0 ++ [pW], okW x := fun x hx => by
    rcases List.mem_append.1 hx with h | h
    · exact (hok x h).1
    · rw [List.mem_singleton] at h; rw [h]; exact p_ok
  refine make_err t ⟨#[97]⟩ ((W0 ++ [pW]).map mk) [⟨#[97]⟩] false w hts (by decide) (wds_flat t _ hW ht) (by kernel_rfl) (by simp) (nbr_W _ hW) (by decide) (fun x hx => by rw [List.mem_singleton] at hx; rw [hx]; unfold nbr; kernel_rfl) ?_
  intro D b cap g capR W hD hb hbD hc hcR hlR hlL hsR hcc
  rw [map_nm _ hW] at hD hc
  exact settle_pat_bad D _ [⟨#[97]⟩] W0.length b cap g capR W hD (by simp) hlL hb hbD hne (by simp) (fun j hj => by
    rw [List.getD_eq_getElem?_getD, List.getElem?_map, List.getElem?_append_left hj, List.getElem?_eq_getElem hj]
    show Pt.opn (tl (mk _)) = false
    rw [tl_mk]
    exact (hok _ (List.getElem_mem hj)).2) (by
    rw [List.getD_eq_getElem?_getD, List.getElem?_map, List.getElem?_append_right (Nat.le_refl _), Nat.sub_self]
    show Pt.opn (tl (mk pW)) = true
    kernel_rfl) hc hlR hsR hcc (fun x hx => by rw [List.mem_singleton] at hx; rw [hx]; kernel_rfl)
set_option maxRecDepth 100000 in
theorem m3_ok (w : World) : Calls Tryz.prog 14 #[.string ⟨#[37, 46, 111, 32, 37, 46, 112]⟩, .string ⟨#[97, 37]⟩, .bool true] w fun e w' => (∃ b cap g3 cap3, e = .returned (.tuple #[.agg #[.slice (some ⟨b, 0, none⟩) 2 cap, .slice (some ⟨g3, 0, none⟩) 1 cap3, .slice none 0 0, .bool false, .bool true, .bool true, .string ⟨#[]⟩, .slice none 0 0, .bool false, .string ⟨#[]⟩, .bool false], .slice none 0 0, .int .i64 0])) ∧ Below w.heap.size w w' :=
  make_pat ⟨#[37, 46, 111, 32, 37, 46, 112]⟩ ⟨#[97, 37]⟩ [⟨#[37, 46, 111]⟩, ⟨#[37, 46, 112]⟩] [⟨#[97, 37]⟩] w (by decide) (by decide) (by kernel_rfl) (by kernel_rfl) (by decide) (fun x hx => by
    rcases (by simpa using hx : x = ⟨#[37, 46, 111]⟩ ∨ x = ⟨#[37, 46, 112]⟩) with rfl | rfl <;> (unfold nbr; kernel_rfl)) (fun j hj => by
    rcases (by simp at hj; omega : j = 0 ∨ j = 1) with rfl | rfl <;> kernel_rfl) (by decide) (fun x hx => by rw [List.mem_singleton] at hx; rw [hx]; unfold nbr; kernel_rfl) (fun x hx => by rw [List.mem_singleton] at hx; rw [hx]; kernel_rfl) (fun j hj => by
    have hj0 : j = 0 := by simp at hj; omega
    subst hj0
    decide +kernel)
end Go.Proofs.YthkjinhnnilalaaGreatDoor
