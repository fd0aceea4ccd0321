/- The law TextNumbers is proved: for every text s and every int n the law answers true, and both read afterwards as they read before. Condition, as the card says it: the library's five listed tables hold what the program's text lays in them. -/
import Derived.Test.YtjfbnjajekedlaaDoorCards
import Derived.Test.YtjfbnjajekedlaaDoorTie
import Derived.Test.YtjfbnjajekedlaaDoorFrame
import Derived.Test.YtjfbnjajekedlaaDoorDec
namespace Go.Proofs.YtjfbnjajekedlaaDoor
open Go.ChangeShapes Go.WideShapes Go.ChangeAt Go.WideMaps Go.WideElems Go.RowKit
open Go.ChangeMaps (open_string shut_string)

set_option maxHeartbeats 400000 in
theorem numbers_long (s : ByteArray) (n : Int) (w : World) (h : Env w) (hs : 20000 < s.size) (hm : s.size ≤ maxLen) :
    Calls Tryd.prog 7 #[.string s, .int .i64 n] w fun e w' => e = .returned (.bool true) ∧ Below w.heap.size w w' := by
  unfold maxLen at hm
  go_enter Tryd.func7, Tryd.ntmps7
  go_wp2_with (go_at_call 9; refine (alive_any _ h).mono ?_; rintro e w1 ⟨rfl, hb1⟩)
  go_ret
  exact ⟨rfl, hb1⟩

set_option maxHeartbeats 400000 in
theorem numbers_main (s : ByteArray) (n : Int) (w : World) (h : Env w) (hs : s.size ≤ 20000) (h0 : -9223372036854775808 ≤ n) (h1 : n ≤ 9223372036854775807) :
    Calls Tryd.prog 7 #[.string s, .int .i64 n] w fun e w' => e = .returned (.bool true) ∧ Below w.heap.size w w' := by
  have kN : ∀ w, Calls Tryd.prog 29 #[.string s] w fun e w' => e = .returned (.tuple #[.int .i64 (numOf s.data.toList), .bool (isNum s.data.toList)]) ∧ w' = w := fun w => number_any s w (by unfold maxLen; omega)
  have kR : ∀ w, Calls Tryd.prog 30 #[.string s] w fun e w' => e = .returned (.tuple #[.int .i64 (numOf s.data.toList), .bool (isNum s.data.toList)]) ∧ w' = w := fun w => rnumber_any s w (by unfold maxLen; omega)
  have kD : ∀ w, Env w → Calls Tryd.prog 31 #[.int .i64 n] w fun e w' => e = .returned (.string ⟨(Lib.itoa n).toArray⟩) ∧ Below w.heap.size w w' := fun w hw => decimal_any n h0 h1 w hw.tab
  have kE : ∀ w, Calls Tryd.prog 32 #[.int .i64 n] w fun e w' => e = .returned (.string ⟨(Lib.itoa n).toArray⟩) ∧ w' = w := rdecimal_any n h0 h1
  have hlen : (⟨(Lib.itoa n).toArray⟩ : ByteArray).size ≤ maxLen := by
    show (Lib.itoa n).toArray.size ≤ maxLen
    rw [List.size_toArray]
    unfold Lib.itoa maxLen
    split
    · have := dec_size n.natAbs (by omega)
      have e : (⟨(Lib.decDigits n.natAbs).toArray⟩ : ByteArray).size = (Lib.decDigits n.natAbs).length := List.size_toArray ..
      rw [List.length_cons]
      omega
    · have := dec_size n.toNat (by omega)
      have e : (⟨(Lib.decDigits n.toNat).toArray⟩ : ByteArray).size = (Lib.decDigits n.toNat).length := List.size_toArray ..
      omega
  have kM : ∀ w, Calls Tryd.prog 29 #[.string ⟨(Lib.itoa n).toArray⟩] w fun e w' => e = .returned (.tuple #[.int .i64 (numOf (Lib.itoa n)), .bool (isNum (Lib.itoa n))]) ∧ w' = w := fun w => number_any ⟨(Lib.itoa n).toArray⟩ w hlen
  generalize numOf s.data.toList = a at kN kR
  generalize isNum s.data.toList = b at kN kR
  by_cases hr : 0 ≤ n ∧ n < 1000000000
  · obtain ⟨e1, e2⟩ := itoa_yes n hr.1 hr.2
    rw [e1, e2] at kM
    obtain ⟨r1, r2⟩ := hr
    clear e1 e2 hlen h0 h1
    generalize (⟨(Lib.itoa n).toArray⟩ : ByteArray) = d at kD kE kM
    go_enter Tryd.func7, Tryd.ntmps7
    go_wp2_with fail
    refine (alive_any _ h).mono ?_
    rintro e w1 ⟨rfl, hb1⟩
    have e1 := h.below hb1
    go_wp2_with fail
    refine (kN _).mono ?_
    rintro e w1' ⟨rfl, rfl⟩
    go_wp2_with fail
    refine (kR _).mono ?_
    rintro e w1'' ⟨rfl, rfl⟩
    go_wp2_with fail
    refine (kD _ e1).mono ?_
    rintro e w2 ⟨rfl, hb2⟩
    go_wp2_with fail
    refine (kM _).mono ?_
    rintro e w2' ⟨rfl, rfl⟩
    go_wp2_with (go_at_call 32; refine (kE _).mono ?_; rintro e w' ⟨rfl, rfl⟩)
    go_ret
    exact ⟨rfl, hb1.trans (hb2.mono hb1.size)⟩
  · have e1 := itoa_no n (by omega)
    have e2 : numOf (Lib.itoa n) = 0 := by rw [numOf, e1]; rfl
    rw [e1, e2] at kM
    clear e1 e2 hlen h0 h1
    generalize (⟨(Lib.itoa n).toArray⟩ : ByteArray) = d at kD kE kM
    by_cases r1 : 0 ≤ n
    · have r2 : ¬ n < 1000000000 := by omega
      have r3 : decide (n < 1000000000) = false := decide_eq_false r2
      clear hr
      go_enter Tryd.func7, Tryd.ntmps7
      go_wp2_with fail
      refine (alive_any _ h).mono ?_
      rintro e w1 ⟨rfl, hb1⟩
      have e1 := h.below hb1
      go_wp2_with fail
      refine (kN _).mono ?_
      rintro e w1' ⟨rfl, rfl⟩
      go_wp2_with fail
      refine (kR _).mono ?_
      rintro e w1'' ⟨rfl, rfl⟩
      go_wp2_with fail
      refine (kD _ e1).mono ?_
      rintro e w2 ⟨rfl, hb2⟩
      go_wp2_with fail
      refine (kM _).mono ?_
      rintro e w2' ⟨rfl, rfl⟩
      go_wp2_with (go_at_call 32; refine (kE _).mono ?_; rintro e w' ⟨rfl, rfl⟩)
      go_ret
      exact ⟨rfl, hb1.trans (hb2.mono hb1.size)⟩
    · clear hr
      go_enter Tryd.func7, Tryd.ntmps7
      go_wp2_with fail
      refine (alive_any _ h).mono ?_
      rintro e w1 ⟨rfl, hb1⟩
      have e1 := h.below hb1
      go_wp2_with fail
      refine (kN _).mono ?_
      rintro e w1' ⟨rfl, rfl⟩
      go_wp2_with fail
      refine (kR _).mono ?_
      rintro e w1'' ⟨rfl, rfl⟩
      go_wp2_with fail
      refine (kD _ e1).mono ?_
      rintro e w2 ⟨rfl, hb2⟩
      go_wp2_with fail
      refine (kM _).mono ?_
      rintro e w2' ⟨rfl, rfl⟩
      go_wp2_with (go_at_call 32; refine (kE _).mono ?_; rintro e w' ⟨rfl, rfl⟩)
      go_ret
      exact ⟨rfl, hb1.trans (hb2.mono hb1.size)⟩

theorem numbers_any (s : ByteArray) (n : Int) (w : World) (h : Env w) (hs : s.size ≤ maxLen) (h0 : -9223372036854775808 ≤ n) (h1 : n ≤ 9223372036854775807) :
    Calls Tryd.prog 7 #[.string s, .int .i64 n] w fun e w' => e = .returned (.bool true) ∧ Below w.heap.size w w' := by
  by_cases hl : s.size ≤ 20000
  · exact numbers_main s n w h hl h0 h1
  · exact numbers_long s n w h (by omega) hs

set_option maxRecDepth 100000 in
theorem numbers_lifted (os : Os) (started : os.Started) (H : Type) (enc : TypeId × Value → H) :
    ReturnsInHanded {} Tryd.checked os 7 .any (fun w args => (Rows.textNumbersSpec.pre enc Tryd.prog Tryd.f7 [] false w args ∧ laidMetH Tryd.prog L5 w) ∧ sizedMet enc Tryd.prog Tryd.f7 (OpenSpec.ofChange Rows.textNumbersSpec) false w args)
      (Rows.textNumbersSpec.post enc Tryd.prog Tryd.f7 false true false false) := by
  refine wrap started (by kernel_rfl) Tryd.func7
    (ChangeSpec.witness_shaped (enc := enc) (C := Tryd.checked) (os := os) (X := fun w _ => laidMetH Tryd.prog L5 w) false (World.laidAll Tryd.prog os L5) #[.string ⟨#[]⟩, .int .i64 0] 8 (World.laidAll_os _ _ _)
      (World.shaped_of_ZipB (by kernel_rfl) (by kernel_rfl)) (by kernel_rfl) (by kernel_rfl) (by kernel_rfl)
      (by rw [MakeChecks.laidMetH_plain _ _ _ (by kernel_rfl)]; exact laidMet_laidAll _ (by kernel_rfl) (by kernel_rfl))) ?_
  intro W base args ds gs before hval0 hW hE
  have hval : ∀ (j : Nat) t v, Tryd.f7.params[j]? = some t → args[j]? = some v → Value.okWide Tryd.prog W .any base t v := hval0
  have hW' := hW
  obtain ⟨p, q, hA0, hV, rfl, _, _⟩ := hW
  have hA : DataW.TrodAll enc Tryd.prog W 0 (fun _ => true) true Tryd.f7.params.toList args.toList ds p := hA0
  rw [Tryd.params7] at hA hval
  obtain ⟨v0, v1, d0, d1, p0, p1, rfl, rfl, rfl, h0, h1⟩ := trodAll_two hA
  obtain ⟨rfl, rfl⟩ := trodVars_none hV
  obtain ⟨s, rfl, rfl, rfl, hs⟩ := open_string Tryd.underlying9 (hval 0 9 v0 rfl rfl) h0
  obtain ⟨n, rfl, rfl, rfl, wn⟩ := open_int Tryd.underlying3 (hval 1 3 v1 rfl rfl) h1
  simp only [List.append_nil] at hW'
  have hn : -9223372036854775808 ≤ n ∧ n ≤ 9223372036854775807 := by simpa [Lit.wf, IntKind.min, IntKind.max, IntKind.signed, IntKind.bits] using wn
  refine (numbers_any s n W hE hs hn.1 hn.2).mono fun e W' ⟨he, hb⟩ => ?_
  subst he
  exact ⟨_, rfl, _, _, _, [], [], [], hW', trodAll_mk1 (shut_bool Tryd.underlying4 _), trodAll_mk2 (shut_string Tryd.underlying9 hs) (shut_int Tryd.underlying3 wn), rfl, hb.frame _, fun h => by cases h⟩

theorem numbers_holds : Rows.TextNumbersSaid :=
  OpenClaim.holds_of_wide 7 Tryd.f7 rfl rfl rfl rfl rfl rfl rfl ⟨rfl, rfl, rfl, rfl, rfl⟩ rfl rfl rfl rfl rfl (by kernel_rfl) Tryd.func7 (by kernel_rfl)
    (of_decide_eq_true (by kernel_rfl)) (by unfold Func.isWrapper; first | (rw [if_pos (by decide +kernel)]; kernel_rfl) | (rw [if_neg (by decide +kernel)]; exact ⟨rfl, rfl⟩))
    (fun os started H enc _ => numbers_lifted os started H enc)

theorem textNumbers_card : Rows.TextNumbersCardSaid :=
  Claim7.holds_tied_plain_at .later [] [.data, .data, .data, .data, .pinned] true (true, "05963ba63396d3d4b67adbfd471a0f7584671f65744c8bdaf0df537bf2fa3b0f") false numbers_holds (fun _ h => by cases h) (by kernel_rfl) (fun _ h => by cases h) textNumbers_row_tie rfl ⟨rfl, rfl⟩ (by kernel_rfl) rfl
    (fun f fn hf hfn => by
      obtain rfl : f = 7 := Option.some.inj ((show Tryd.prog.funcNamed "anvil/anvillaw1.TextNumbers" = some 7 by kernel_rfl).symm.trans hf) |>.symm
      obtain rfl : fn = Tryd.f7 := (Option.some.inj (Tryd.func7.symm.trans hfn)).symm
      exact ⟨by kernel_rfl, fun j t ht => by
        rw [Tryd.params7] at ht
        have hm : t ∈ [9, 3] := by simpa using Array.mem_of_getElem? ht
        have hall : ([9, 3].all fun u => !Tryd.prog.wantsStandIn u) = true := by kernel_rfl
        exact (show Tryd.prog.wantsStandIn t = false by simpa using List.all_eq_true.1 hall t hm)⟩)
    (by kernel_rfl)
end Go.Proofs.YtjfbnjajekedlaaDoor
