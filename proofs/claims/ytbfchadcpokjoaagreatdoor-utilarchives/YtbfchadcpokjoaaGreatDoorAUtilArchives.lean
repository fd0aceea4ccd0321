/- The law UtilArchives is proved: for every list of numbers, and for one by one or all at once, the law answers true: files that are put into an archive are listed in their order and told as they were, and one that goes is gone. Condition, as the card says it: the listed variables of the program and of the library hold what the program's text lays in them. -/
import Derived.Test.YtbfchadcpokjoaaGreatDoorCards
import Derived.Test.YtbfchadcpokjoaaGreatDoorTie
import Derived.Test.YtbfchadcpokjoaaGreatDoorAFrame
import Derived.Test.YtbfchadcpokjoaaGreatDoorAVl
import Derived.Test.YtbfchadcpokjoaaGreatDoorAVv
namespace Go.Proofs.YtbfchadcpokjoaaGreatDoor
open Go.ChangeShapes Go.WideShapes Go.ChangeAt Go.WideMaps Go.WideElems Go.RowKit
open Go.ChangeMaps (open_string shut_string)

set_option maxRecDepth 100000 in
theorem utilArchives_lifted (os : Os) (started : os.Started) (H : Type) (enc : TypeId × Value → H) :
    ReturnsInHanded {} Tryz.checked os 5 .any (fun w args => (Rows.utilArchivesSpec.pre enc Tryz.prog Tryz.f5 [] false w args ∧ laidMetH Tryz.prog L10 w) ∧ sizedMet enc Tryz.prog Tryz.f5 (OpenSpec.ofChange Rows.utilArchivesSpec) false w args)
      (Rows.utilArchivesSpec.post enc Tryz.prog Tryz.f5 false true false false) := by
  refine wrap started (by kernel_rfl) Tryz.func5
    (ChangeSpec.witness_shaped (enc := enc) (C := Tryz.checked) (os := os) (X := fun w _ => laidMetH Tryz.prog L10 w) false ({ World.doorLaid Tryz.prog 600 os with heap := (World.doorLaid Tryz.prog 600 os).heap.modify 3 putFirst } : World) #[.slice none 0 0, .bool false] 8 rfl
      (World.shaped_of_RefB (by kernel_rfl) (by kernel_rfl)) (by kernel_rfl) (by kernel_rfl) (by kernel_rfl) (door_met os _)) ?_
  intro W base args ds gs before hval0 hW hsz0 hsh hld hE
  have hsz : (DataW.weightsEach Tryz.prog (Tryz.f5.params.toList ++ Rows.utilArchivesSpec.plain.varTypes Tryz.prog) (ds ++ gs)).all (· ≤ reachBytes) = true := hsz0
  have hval : ∀ (j : Nat) t v, Tryz.f5.params[j]? = some t → args[j]? = some v → Value.okWide Tryz.prog W .any base t v := hval0
  have hW' := hW
  obtain ⟨p, q, hA0, hV, rfl, _, _⟩ := hW
  have hA : DataW.TrodAll enc Tryz.prog W 0 (fun _ => true) true Tryz.f5.params.toList args.toList ds p := hA0
  rw [Tryz.params5] at hA hval hsz
  obtain ⟨v0, v1, d0, d1, p0, p1, rfl, rfl, rfl, h0, h1⟩ := trodAll_two hA
  obtain ⟨rfl, rfl⟩ := trodVars_none hV
  obtain ⟨oa, olen, ocap, rfl⟩ := okWide_slice Tryz.underlying47 (hval 0 47 v0 rfl rfl)
  obtain ⟨y, rfl, rfl, rfl⟩ := open_bool Tryz.underlying4 (hval 1 4 v1 rfl rfl) h1
  clear hA0 hval0 hsz0
  simp only [List.append_nil] at hW'
  have hlt : ∀ x ∈ p0, x.block < W.heap.size := fun x hx => by simpa using hW'.lt x (by simpa using hx)
  have hs0 : Small d0 47 := fun m hm => of_decide_eq_true (List.all_eq_true.1 hsz m (DataW.weights_mem_each (j := 0) (t := 47) rfl rfl m hm))
  obtain ⟨fu0, hf0⟩ := h0
  obtain ⟨bs, hR, hl⟩ := nis_of (show DataW.trod enc Tryz.prog W 0 (fun _ => true) true fu0 47 [.slice oa olen ocap] = some (d0, p0) from hf0) hs0
  obtain ⟨E, hG, hs⟩ := hE
  have hA := aenv_of hsh hld
  refine (uarch_any 10 E _ bs y W ⟨hG.c0, hG.c1, by decide⟩ hA.lt (by decide) hA hR hl).mono fun e W' ⟨he, hb⟩ => ?_
  subst he
  exact ⟨_, rfl, _, _, _, [], p0 ++ [], [], hW', trodAll_mk1 (shut_bool Tryz.underlying4 _), trodAll_mk2 (Below.trod laidOut (by kernel_rfl) (of_decide_eq_true (by kernel_rfl)) ⟨fu0, hf0⟩ hb hlt) (shut_bool Tryz.underlying4 y), rfl, hb.frame _, fun h => by cases h⟩

theorem utilArchives_holds : Rows.UtilArchivesSaid :=
  OpenClaim.holds_of_wide 5 Tryz.f5 rfl rfl rfl rfl rfl rfl rfl ⟨rfl, rfl, rfl, rfl, rfl⟩ rfl rfl rfl rfl rfl (by kernel_rfl) Tryz.func5 (by kernel_rfl)
    (of_decide_eq_true (by kernel_rfl)) (by unfold Func.isWrapper; first | (rw [if_pos (by decide +kernel)]; kernel_rfl) | (rw [if_neg (by decide +kernel)]; exact ⟨rfl, rfl⟩))
    (fun os started H enc _ => utilArchives_lifted os started H enc)

theorem utilArchives_card : Rows.UtilArchivesCardSaid :=
  Claim7.holds_tied_plain_at .later [] [.data, .data, .data, .data, .handle, .sentinel, .sentinel, .data, .sentinel, .pinned] true (true, "883e664d582d16d21b0b987f87e3e80a5fd500676c7ff7c28afaaaa4061b4a00") true utilArchives_holds (fun _ h => by cases h) (by kernel_rfl) (fun _ h => by cases h) utilArchives_row_tie rfl ⟨rfl, rfl⟩ (by kernel_rfl) rfl
    (fun f fn hf hfn => by
      obtain rfl : f = 5 := Option.some.inj ((show Tryz.prog.funcNamed "anvil/anvillaw11.UtilArchives" = some 5 by kernel_rfl).symm.trans hf) |>.symm
      obtain rfl : fn = Tryz.f5 := (Option.some.inj (Tryz.func5.symm.trans hfn)).symm
      exact ⟨by kernel_rfl, fun j t ht => by
        rw [Tryz.params5] at ht
        have hm : t ∈ [47, 4] := by simpa using Array.mem_of_getElem? ht
        have hall : ([47, 4].all fun u => !Tryz.prog.wantsStandIn u) = true := by kernel_rfl
        exact (show Tryz.prog.wantsStandIn t = false by simpa using List.all_eq_true.1 hall t hm)⟩)
    (by kernel_rfl)
end Go.Proofs.YtbfchadcpokjoaaGreatDoor
