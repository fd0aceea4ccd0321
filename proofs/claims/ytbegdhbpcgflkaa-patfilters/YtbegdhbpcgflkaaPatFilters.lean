/- The law PatFilters is proved: for all lists of patterns and of words the law answers true, and both lists read afterwards as they read before. No condition. -/
import Derived.Test.YtbegdhbpcgflkaaFrameS
import Derived.Test.YtbegdhbpcgflkaaFiltLaw
namespace Go.Proofs.Ytbegdhbpcgflkaa
open Go.ChangeShapes Go.WideShapes Go.ChangeAt Go.WideMaps Go.WideElems Go.RowKit

theorem laidOut : laidOutB Try.prog = true := by kernel_rfl
theorem cells9 : Try.prog.cellsOf 9 = 1 := by kernel_rfl
theorem bytes9 : Try.prog.bytesOf 9 = 16 := by kernel_rfl
theorem weights_in {H : Type} {P : Program} {e : TypeId} (l : List (DataW H)) (d : DataW H) (hd : d ∈ l) (n : Nat) (hn : n ∈ d.weights P e) : n ∈ DataW.weightsAll P e l := by
  induction l with
  | nil => cases hd
  | cons d' r ih =>
    simp only [DataW.weightsAll, List.mem_append]
    rcases List.mem_cons.1 hd with rfl | h
    · exact Or.inl hn
    · exact Or.inr (ih h)

/-- a list of texts that came in: what it holds, and that the reach bounds it -/
theorem strz_of {H : Type} {enc : TypeId × Value → H} {W : World} {a0 : Option Addr} {len cap : Nat} {d : DataW H} {p : List MemPlace} (hlt : ∀ x ∈ p, x.block < W.heap.size)
    (h : DataW.Trod enc Try.prog W 0 (fun _ => true) true 30 (.slice a0 len cap) d p) {ts : List TypeId} {ds : List (DataW H)} {i : Nat} (ht : ts[i]? = some 30) (hd : ds[i]? = some d) (hsz : (DataW.weightsEach Try.prog ts ds).all (· ≤ reachBytes) = true) :
    ∃ L, Strz W (.slice a0 len cap) L ∧ L.length ≤ 140737488355328 ∧ ∀ j, (L.getD j ⟨#[]⟩).size ≤ 140737488355328 := by
  obtain ⟨fuel, hf⟩ := h
  rcases open_strings Try.underlying30 Try.underlying9 cells9 hf with ⟨hcs, hx⟩ | ⟨a, len', cap', ss, hcs, _, hl, hm, hz, hx, hcell, hws⟩
  · simp [Value.cells] at hcs
    obtain ⟨rfl, rfl, rfl⟩ := hcs
    exact ⟨[], .inr (.inl ⟨rfl, rfl⟩), by simp, fun j => by rw [List.getD_nil]; exact Nat.zero_le _⟩
  · simp [Value.cells] at hcs
    obtain ⟨rfl, rfl, rfl⟩ := hcs
    simp only [Prod.mk.injEq] at hx
    obtain ⟨rfl, rfl⟩ := hx
    simp only [if_true] at hz
    have hn := sized_slice hsz (j := i) (t := 30) (e := 9) ht hd Try.underlying30
    rw [bytes9] at hn
    have hlen : (ss.take len).length = len := by rw [List.length_take]; omega
    have hel : ∀ x ∈ ss.take len, x.size ≤ 140737488355328 := fun x hx => by
      have hmem : (DataW.lit (.string x.data.toList) : DataW H) ∈ strs (ss.take len) := List.mem_map_of_mem hx
      have := of_decide_eq_true (List.all_eq_true.1 hsz x.data.toList.length (DataW.weights_mem_each (j := i) (t := 30) ht hd _ (by
        simp only [DataW.weights, Try.underlying30, List.mem_cons, List.mem_append]
        exact Or.inr (Or.inl (weights_in _ _ hmem _ (by simp [DataW.weights]))))))
      rw [← Lib.size_eq] at this
      unfold reachBytes at this
      omega
    refine ⟨ss.take len, ?_, ?_, fun j => ?_⟩
    · by_cases h0 : len = 0
      · subst h0
        exact .inl ⟨by simp, a, cap, rfl⟩
      · obtain ⟨b, off, spot⟩ := a
        have hspot : spot = none := by simpa [Addr.add] using World.cell?_spot (hcell 0 (by omega))
        subst hspot
        refine .inr (.inr ⟨b, off, cap, by rw [hlen], by omega, hm, ?_, fun j hj => ?_⟩)
        · exact hlt (.cell b off) (by
            refine MemPlace.mem_row.2 ⟨0, by omega, ?_⟩
            simp)
        · rw [hlen] at hj
          have := hcell j (by omega)
          rw [Go.WideShapes.add_plain] at this
          rw [this]
          rw [List.getD_eq_getElem?_getD, List.getD_eq_getElem?_getD, List.getElem?_take_of_lt hj]
          rfl
    · rw [hlen]
      simp only [strs, List.length_map, reachBytes] at hn
      rw [hlen] at hn
      omega
    · rw [List.getD_eq_getElem?_getD]
      cases he : (ss.take len)[j]? with
      | none => exact Nat.zero_le _
      | some x => exact hel x (List.mem_of_getElem? he)

set_option maxRecDepth 100000 in
theorem filters_lifted (os : Os) (started : os.Started) (H : Type) (enc : TypeId × Value → H) :
    ReturnsInHanded {} Try.checked os 4 .any (fun w args => Rows.patFiltersSpec.pre enc Try.prog Try.f4 [] false w args ∧ sizedMet enc Try.prog Try.f4 (OpenSpec.ofChange Rows.patFiltersSpec) false w args)
      (Rows.patFiltersSpec.post enc Try.prog Try.f4 false true false false) := by
  refine wrapS started (by kernel_rfl) Try.func4
    (ChangeSpec.witness_shaped (enc := enc) (C := Try.checked) (os := os) (X := fun _ _ => True) false (World.laidAll Try.prog os L0) #[.slice none 0 0, .slice none 0 0] 8 (World.laidAll_os _ _ _)
      (World.shaped_of_ZipB (by kernel_rfl) (by kernel_rfl)) (by kernel_rfl) (by kernel_rfl) (by kernel_rfl) trivial) ?_
  intro W base args ds gs before hval0 hW hsz0
  have hsz : (DataW.weightsEach Try.prog (Try.f4.params.toList ++ Rows.patFiltersSpec.plain.varTypes Try.prog) (ds ++ gs)).all (· ≤ reachBytes) = true := hsz0
  have hval : ∀ (j : Nat) t v, Try.f4.params[j]? = some t → args[j]? = some v → Value.okWide Try.prog W .any base t v := hval0
  have hW' := hW
  obtain ⟨p, q, hA0, hV, rfl, _, _⟩ := hW
  have hA : DataW.TrodAll enc Try.prog W 0 (fun _ => true) true Try.f4.params.toList args.toList ds p := hA0
  rw [Try.params4] at hA hval hsz
  obtain ⟨v0, v1, d0, d1, p0, p1, rfl, rfl, rfl, h0, h1⟩ := trodAll_two hA
  obtain ⟨rfl, rfl⟩ := trodVars_none hV
  obtain ⟨a0, len0, cap0, rfl⟩ := okWide_slice Try.underlying30 (hval 0 30 v0 rfl rfl)
  obtain ⟨a1, len1, cap1, rfl⟩ := okWide_slice Try.underlying30 (hval 1 30 v1 rfl rfl)
  clear hA0 hval0 hsz0
  simp only [List.append_nil] at hW'
  have hlt : ∀ x ∈ p0 ++ p1, x.block < W.heap.size := fun x hx => by simpa using hW'.lt x hx
  have hlt0 : ∀ x ∈ p0, x.block < W.heap.size := fun x hx => hlt x (List.mem_append_left _ hx)
  have hlt1 : ∀ x ∈ p1, x.block < W.heap.size := fun x hx => hlt x (List.mem_append_right _ hx)
  obtain ⟨PS, hS0, m0, x0⟩ := strz_of hlt0 h0 (i := 0) rfl rfl hsz
  obtain ⟨L, hS1, m1, x1⟩ := strz_of hlt1 h1 (i := 1) rfl rfl hsz
  refine (filters_any PS L _ _ W m0 x0 m1 x1 hS0 hS1).mono fun e W' ⟨he, hb⟩ => ?_
  subst he
  exact ⟨_, rfl, _, _, _, [], p0 ++ p1, [], hW', trodAll_mk1 (shut_bool Try.underlying4 _), trodAll_mk2 (Below.trod laidOut (by kernel_rfl) (of_decide_eq_true (by kernel_rfl)) h0 hb hlt0) (Below.trod laidOut (by kernel_rfl) (of_decide_eq_true (by kernel_rfl)) h1 hb hlt1), rfl, hb.frame _, fun h => by cases h⟩

theorem patFilters_holds : Rows.PatFiltersSaid :=
  OpenClaim.holds_of_wide 4 Try.f4 rfl rfl rfl rfl rfl rfl rfl ⟨rfl, rfl, rfl, rfl, rfl⟩ rfl rfl rfl rfl rfl (by kernel_rfl) Try.func4 (by kernel_rfl)
    (of_decide_eq_true (by kernel_rfl)) (by unfold Func.isWrapper; first | (rw [if_pos (by decide +kernel)]; kernel_rfl) | (rw [if_neg (by decide +kernel)]; exact ⟨rfl, rfl⟩))
    (fun os started H enc _ => filters_lifted os started H enc)
end Go.Proofs.Ytbegdhbpcgflkaa
