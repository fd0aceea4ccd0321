/- The law VfsPlays is proved: for every tree and every row of calls the law answers true (each call answers, and leaves, what the reference does, and a twin that was taken ahead has nothing to do with it), and both arguments read afterwards as they read before. Condition, as the card says it: the two listed package variables (errors.errorType and the sentinel vfs.errNothing) hold what the program's text lays in them. -/
import Derived.Test.YtpbfhbnkalambaaGreatDoorCards
import Derived.Test.YtpbfhbnkalambaaGreatDoorTie
import Derived.Test.YtpbfhbnkalambaaGreatDoorOpens
import Derived.Test.YtpbfhbnkalambaaGreatDoorPy
namespace Go.Proofs.YtpbfhbnkalambaaGreatDoor
open Go.ChangeShapes Go.WideShapes Go.ChangeAt Go.WideMaps Go.WideElems Go.RowKit
open Go.ChangeMaps (open_string shut_string)

theorem laidOut : laidOutB Tryz.prog = true := by kernel_rfl
set_option maxRecDepth 100000 in
theorem plays_lifted (os : Os) (started : os.Started) (H : Type) (enc : TypeId × Value → H) :
    ReturnsInHanded {} Tryz.checked os 4 .any (fun w args => (Rows.vfsPlaysSpec.pre enc Tryz.prog Tryz.f4 [] false w args ∧ laidMetH Tryz.prog L2 w) ∧ sizedMet enc Tryz.prog Tryz.f4 (OpenSpec.ofChange Rows.vfsPlaysSpec) false w args)
      (Rows.vfsPlaysSpec.post enc Tryz.prog Tryz.f4 false true false false) := by
  refine wrapS started (by kernel_rfl) Tryz.func4
    (ChangeSpec.witness_shaped (enc := enc) (C := Tryz.checked) (os := os) (X := fun w _ => laidMetH Tryz.prog L2 w) false (World.doorLaid Tryz.prog 600 os) #[.agg #[.slice none 0 0, .int .i64 0, .int .i64 0], .slice none 0 0] 8 rfl
      (World.shaped_of_RefB (by kernel_rfl) (by kernel_rfl)) (by kernel_rfl) (by kernel_rfl) (by kernel_rfl) (door_met os _)) ?_
  intro W base args ds gs before hval0 hW hsz0 hE
  have hsz : (DataW.weightsEach Tryz.prog (Tryz.f4.params.toList ++ Rows.vfsPlaysSpec.plain.varTypes Tryz.prog) (ds ++ gs)).all (· ≤ reachBytes) = true := hsz0
  have hval : ∀ (j : Nat) t v, Tryz.f4.params[j]? = some t → args[j]? = some v → Value.okWide Tryz.prog W .any base t v := hval0
  have hW' := hW
  obtain ⟨p, q, hA0, hV, rfl, _, _⟩ := hW
  have hA : DataW.TrodAll enc Tryz.prog W 0 (fun _ => true) true Tryz.f4.params.toList args.toList ds p := hA0
  rw [Tryz.params4] at hA hval hsz
  obtain ⟨v0, v1, d0, d1, p0, p1, rfl, rfl, rfl, h0, h1⟩ := trodAll_two hA
  obtain ⟨rfl, rfl⟩ := trodVars_none hV
  obtain ⟨cs, rfl, _⟩ : ∃ cs, v0 = .agg cs ∧ True := by
    have := hval 0 24 v0 rfl rfl
    unfold Value.okWide at this
    rw [Tryz.underlying24] at this
    obtain ⟨cs, h1, _⟩ := this
    exact ⟨cs, h1, trivial⟩
  obtain ⟨oa, olen, ocap, rfl⟩ := okWide_slice Tryz.underlying39 (hval 1 39 v1 rfl rfl)
  clear hA0 hval0 hsz0
  simp only [List.append_nil] at hW'
  have hlt : ∀ x ∈ p0 ++ p1, x.block < W.heap.size := fun x hx => by simpa using hW'.lt x hx
  have hlt0 : ∀ x ∈ p0, x.block < W.heap.size := fun x hx => hlt x (List.mem_append_left _ hx)
  have hlt1 : ∀ x ∈ p1, x.block < W.heap.size := fun x hx => hlt x (List.mem_append_right _ hx)
  have hs0 : Small d0 24 := fun m hm => of_decide_eq_true (List.all_eq_true.1 hsz m (DataW.weights_mem_each (j := 0) (t := 24) rfl rfl m hm))
  have hs1 : Small d1 39 := fun m hm => of_decide_eq_true (List.all_eq_true.1 hsz m (DataW.weights_mem_each (j := 1) (t := 39) rfl rfl m hm))
  obtain ⟨fu0, hf0⟩ := h0
  obtain ⟨fu1, hf1⟩ := h1
  obtain ⟨v, ns, clk, rm, hcs, hN, hNl, hNm⟩ := tree_of (show DataW.trod enc Tryz.prog W 0 (fun _ => true) true fu0 24 cs.toList = some (d0, p0) from hf0) hs0
  obtain ⟨os', hO, hOl, hOm⟩ := ops_of (show DataW.trod enc Tryz.prog W 0 (fun _ => true) true fu1 39 [.slice oa olen ocap] = some (d1, p1) from hf1) hs1
  obtain rfl : cs = #[v, .int .i64 clk, .int .i64 rm] := Array.toList_inj.1 hcs
  obtain ⟨E, hG, hs⟩ := hE
  refine (plays_any 2 E v _ ns os' clk rm W hN hO hG hs hNl hNm hOl hOm).mono fun e W' ⟨he, hb⟩ => ?_
  subst he
  exact ⟨_, rfl, _, _, _, [], p0 ++ p1, [], hW', trodAll_mk1 (shut_bool Tryz.underlying4 _), trodAll_mk2 (Below.trod laidOut (by kernel_rfl) (of_decide_eq_true (by kernel_rfl)) ⟨fu0, hf0⟩ hb hlt0) (Below.trod laidOut (by kernel_rfl) (of_decide_eq_true (by kernel_rfl)) ⟨fu1, hf1⟩ hb hlt1), rfl, hb.frame _, fun h => by cases h⟩

theorem plays_holds : Rows.VfsPlaysSaid :=
  OpenClaim.holds_of_wide 4 Tryz.f4 rfl rfl rfl rfl rfl rfl rfl ⟨rfl, rfl, rfl, rfl, rfl⟩ rfl rfl rfl rfl rfl (by kernel_rfl) Tryz.func4 (by kernel_rfl)
    (of_decide_eq_true (by kernel_rfl)) (by unfold Func.isWrapper; first | (rw [if_pos (by decide +kernel)]; kernel_rfl) | (rw [if_neg (by decide +kernel)]; exact ⟨rfl, rfl⟩))
    (fun os started H enc _ => plays_lifted os started H enc)

theorem vfsPlays_card : Rows.VfsPlaysCardSaid :=
  Claim7.holds_tied_plain_at .later [] [.handle, .sentinel] true (true, "0e7a2cb40d84fabf37ff8788a0899cf7fc21a85ccd874d66361c561d34b3720c") true plays_holds (fun _ h => by cases h) (by kernel_rfl) (fun _ h => by cases h) vfsPlays_row_tie rfl ⟨rfl, rfl⟩ (by kernel_rfl) rfl
    (fun f fn hf hfn => by
      obtain rfl : f = 4 := Option.some.inj ((show Tryz.prog.funcNamed "anvil/anvillaw5.VfsPlays" = some 4 by kernel_rfl).symm.trans hf) |>.symm
      obtain rfl : fn = Tryz.f4 := (Option.some.inj (Tryz.func4.symm.trans hfn)).symm
      exact ⟨by kernel_rfl, fun j t ht => by
        rw [Tryz.params4] at ht
        have hm : t ∈ [24, 39] := by simpa using Array.mem_of_getElem? ht
        have hall : ([24, 39].all fun u => !Tryz.prog.wantsStandIn u) = true := by kernel_rfl
        exact (show Tryz.prog.wantsStandIn t = false by simpa using List.all_eq_true.1 hall t hm)⟩)
    (by kernel_rfl)
end Go.Proofs.YtpbfhbnkalambaaGreatDoor
