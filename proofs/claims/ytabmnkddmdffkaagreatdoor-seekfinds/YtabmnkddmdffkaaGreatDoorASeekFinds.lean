import Derived.Test.YtabmnkddmdffkaaGreatDoorCards
import Derived.Test.YtabmnkddmdffkaaGreatDoorTie
import Derived.Test.YtabmnkddmdffkaaGreatDoorAFrameF
import Derived.Test.YtabmnkddmdffkaaGreatDoorAOpens
/- The law SeekFinds is proved: for every tree, all pairs, all dirs and all names the law answers true: where the tree is none that the document names both refuse it; else what Find tells of the name, what Time tells of it, and how Split takes it apart is what the reference tells, over files, directories, archives' members and the places of the pairs and of dirs, and the tree is as it was handed in. Condition, as the card says it: the laid variables, which the tie holds against the program's own text. -/
namespace Go.Proofs.YtabmnkddmdffkaaGreatDoor
open Go.ChangeShapes Go.WideShapes Go.ChangeAt Go.WideMaps Go.WideElems Go.RowKit
open Go.ChangeMaps (open_string shut_string)
theorem laidOut : laidOutB Tryz.prog = true := by kernel_rfl
set_option maxRecDepth 100000 in
theorem seekFinds_lifted (os : Os) (started : os.Started) (H : Type) (enc : TypeId × Value → H) :
  ReturnsInHanded {} Tryz.checked os 3 .any (fun w args => (Rows.seekFindsSpec.pre enc Tryz.prog Tryz.f3 [] false w args ∧ laidMetH Tryz.prog L10 w) ∧ sizedMet enc Tryz.prog Tryz.f3 (OpenSpec.ofChange Rows.seekFindsSpec) false w args)
   (Rows.seekFindsSpec.post enc Tryz.prog Tryz.f3 false true false false) := by
 refine wrap started (by kernel_rfl) Tryz.func3
  (ChangeSpec.witness_shaped (enc := enc) (C := Tryz.checked) (os := os) (X := fun w _ => laidMetH Tryz.prog L10 w) false ({ World.doorLaid Tryz.prog 600 os with heap := (World.doorLaid Tryz.prog 600 os).heap.modify 5 putFirst } : World) #[.agg #[.slice none 0 0, .int .i64 0, .int .i64 0], .slice none 0 0, .string ⟨#[]⟩, .string ⟨#[]⟩] 8 rfl
   (World.shaped_of_RefB (by kernel_rfl) (by kernel_rfl)) (by kernel_rfl) (by kernel_rfl) (by kernel_rfl) (door_met os _)) ?_
 intro W base args ds gs before hval0 hW hsz0 hso hla _
 have hsz : (DataW.weightsEach Tryz.prog (Tryz.f3.params.toList ++ Rows.seekFindsSpec.plain.varTypes Tryz.prog) (ds ++ gs)).all (· ≤ reachBytes) = true := hsz0
 have hval : ∀ (j : Nat) t v, Tryz.f3.params[j]? = some t → args[j]? = some v → Value.okWide Tryz.prog W .any base t v := hval0
 have hW' := hW
 obtain ⟨p, q, hA0, hV, rfl, _, _⟩ := hW
 have hA : DataW.TrodAll enc Tryz.prog W 0 (fun _ => true) true Tryz.f3.params.toList args.toList ds p := hA0
 rw [Tryz.params3] at hA hval hsz
 obtain ⟨v0, v1, v2, v3, d0, d1, d2, d3, p0, p1, p2, p3, rfl, rfl, rfl, h0, h1, h2, h3⟩ := trodAll_four hA
 obtain ⟨rfl, rfl⟩ := trodVars_none hV
 obtain ⟨cs, rfl, _⟩ : ∃ cs, v0 = .agg cs ∧ True := by
  have := hval 0 24 v0 rfl rfl
  unfold Value.okWide at this
  rw [Tryz.underlying24] at this
  obtain ⟨cs, h1, _⟩ := this
  exact ⟨cs, h1, trivial⟩
 obtain ⟨oa, olen, ocap, rfl⟩ := okWide_slice Tryz.underlying25 (hval 1 25 v1 rfl rfl)
 have hs0 : Small d0 24 := fun m hm => of_decide_eq_true (List.all_eq_true.1 hsz m (DataW.weights_mem_each (j := 0) (t := 24) rfl rfl m hm))
 have hs1 : Small d1 25 := fun m hm => of_decide_eq_true (List.all_eq_true.1 hsz m (DataW.weights_mem_each (j := 1) (t := 25) rfl rfl m hm))
 have hs2 : Small d2 9 := fun m hm => of_decide_eq_true (List.all_eq_true.1 hsz m (DataW.weights_mem_each (j := 2) (t := 9) rfl rfl m hm))
 have hs3 : Small d3 9 := fun m hm => of_decide_eq_true (List.all_eq_true.1 hsz m (DataW.weights_mem_each (j := 3) (t := 9) rfl rfl m hm))
 obtain ⟨s2, rfl, rfl, rfl, hl2⟩ := open_string Tryz.underlying9 (hval 2 9 v2 rfl rfl) h2
 obtain ⟨s3, rfl, rfl, rfl, hl3⟩ := open_string Tryz.underlying9 (hval 3 9 v3 rfl rfl) h3
 have hz2 : s2.size ≤ 140737488355328 := by
  have hp := hs2 s2.data.toList.length (by simp [DataW.weights])
  rw [← Lib.size_eq] at hp
  unfold reachBytes at hp
  omega
 have hz3 : s3.size ≤ 140737488355328 := by
  have hp := hs3 s3.data.toList.length (by simp [DataW.weights])
  rw [← Lib.size_eq] at hp
  unfold reachBytes at hp
  omega
 clear hA0 hval0 hsz0
 simp only [List.append_nil] at hW'
 have hlt : ∀ x ∈ p0 ++ p1, x.block < W.heap.size := fun x hx => by simpa using hW'.lt x hx
 have hlt0 : ∀ x ∈ p0, x.block < W.heap.size := fun x hx => hlt x (List.mem_append_left _ hx)
 have hlt1 : ∀ x ∈ p1, x.block < W.heap.size := fun x hx => hlt x (List.mem_append_right _ hx)
 obtain ⟨fu0, hf0⟩ := h0
 obtain ⟨fu1, hf1⟩ := h1
 obtain ⟨v, ns, clk, rm, hcs, hN, hNl, hNm⟩ := tree_of (show DataW.trod enc Tryz.prog W 0 (fun _ => true) true fu0 24 cs.toList = some (d0, p0) from hf0) hs0
 obtain ⟨ps, hP, hPl, hPm⟩ := pairs_of (show DataW.trod enc Tryz.prog W 0 (fun _ => true) true fu1 25 [.slice oa olen ocap] = some (d1, p1) from hf1) hs1
 obtain rfl : cs = #[v, .int .i64 clk, .int .i64 rm] := Array.toList_inj.1 hcs
 obtain ⟨Ea, E, hG, hs, hX⟩ := arw_of hla hso
 refine (Sk.law_any 10 Ea E v ns clk rm _ ps s2 s3 W hN hG hX hs (by decide) hNl hNm hP hPm hPl hz2 hz3).mono fun r W' ⟨he, hb⟩ => ?_
 subst he
 have hmk := trodAll_mk4 (Below.trod laidOut (by kernel_rfl) (of_decide_eq_true (by kernel_rfl)) ⟨fu0, hf0⟩ hb hlt0) (Below.trod laidOut (by kernel_rfl) (of_decide_eq_true (by kernel_rfl)) ⟨fu1, hf1⟩ hb hlt1) (shut_string Tryz.underlying9 hl2) (shut_string Tryz.underlying9 hl3)
 rw [show p1 ++ (([] : List MemPlace) ++ []) = p1 from by simp] at hmk
 exact ⟨_, rfl, _, _, _, [], p0 ++ p1, [], hW', trodAll_mk1 (shut_bool Tryz.underlying4 _), hmk, rfl, hb.frame _, fun h => by cases h⟩
theorem seekFinds_holds : Rows.SeekFindsSaid :=
 OpenClaim.holds_of_wide 3 Tryz.f3 rfl rfl rfl rfl rfl rfl rfl ⟨rfl, rfl, rfl, rfl, rfl⟩ rfl rfl rfl rfl rfl (by kernel_rfl) Tryz.func3 (by kernel_rfl)
  (of_decide_eq_true (by kernel_rfl)) (by unfold Func.isWrapper; first | (rw [if_pos (by decide +kernel)]; kernel_rfl) | (rw [if_neg (by decide +kernel)]; exact ⟨rfl, rfl⟩))
  (fun os started H enc _ => seekFinds_lifted os started H enc)
theorem seekFinds_card : Rows.SeekFindsCardSaid :=
 Claim7.holds_tied_plain_at .later [] [.data, .data, .data, .data, .handle, .sentinel, .sentinel, .data, .sentinel, .sentinel, .pinned] true (true, "7b31e9317dcc899c82b27ca0ed209f43ae718c0efbcffea4b5fa961df49fd400") true seekFinds_holds (fun _ h => by cases h) (by kernel_rfl) (fun _ h => by cases h) seekFinds_row_tie rfl ⟨rfl, rfl⟩ (by kernel_rfl) rfl
  (fun f fn hf hfn => by
   obtain rfl : f = 3 := Option.some.inj ((show Tryz.prog.funcNamed "anvil/anvillaw20.SeekFinds" = some 3 by kernel_rfl).symm.trans hf) |>.symm
   obtain rfl : fn = Tryz.f3 := (Option.some.inj (Tryz.func3.symm.trans hfn)).symm
   exact ⟨by kernel_rfl, fun j t ht => by
    rw [Tryz.params3] at ht
    have hm : t ∈ [24, 25, 9, 9] := by simpa using Array.mem_of_getElem? ht
    have hall : ([24, 25, 9, 9].all fun u => !Tryz.prog.wantsStandIn u) = true := by kernel_rfl
    exact (show Tryz.prog.wantsStandIn t = false by simpa using List.all_eq_true.1 hall t hm)⟩)
  (by kernel_rfl)
end Go.Proofs.YtabmnkddmdffkaaGreatDoor
