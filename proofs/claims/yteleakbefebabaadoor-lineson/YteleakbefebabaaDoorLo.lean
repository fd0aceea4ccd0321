/- The contract of the law LinesOn: it answers true whatever the number, the word and the kind are. -/
import Derived.Test.YteleakbefebabaaDoorAl
import Derived.Test.YteleakbefebabaaDoorOn
import Derived.Test.YteleakbefebabaaDoorLw
import Derived.Test.YteleakbefebabaaDoorPh
namespace Go.Proofs.YteleakbefebabaaDoor
open Go.RowKit Go.Shelf

theorem tl_app (a b : ByteArray) : tl (a ++ b) = tl a ++ tl b := by simp [tl]

set_option maxHeartbeats 400000 in
theorem lon_out (n : Int) (s : ByteArray) (y : Bool) (w : World) (hm : s.size ≤ maxLen) (h : n < 1 ∨ 40 < n ∨ 50 < s.size ∨ tl s = []) :
    Calls Tryd.prog 5 #[.int .i64 n, .string s, .bool y] w fun e w' => e = .returned (.bool true) ∧ Below w.heap.size w w' := by
  unfold maxLen at hm
  go_enter Tryd.func5, Tryd.ntmps5
  by_cases h1 : n < 1
  · go_wp2_with (go_at_call 6; refine (alive_any _).mono ?_; rintro e w1 ⟨rfl, hb1⟩)
    go_ret
    exact ⟨rfl, hb1⟩
  · by_cases h2 : 40 < n
    · go_wp2_with (go_at_call 6; refine (alive_any _).mono ?_; rintro e w1 ⟨rfl, hb1⟩)
      go_ret
      exact ⟨rfl, hb1⟩
    · by_cases h3 : 50 < s.size
      · go_wp2_with (go_at_call 6; refine (alive_any _).mono ?_; rintro e w1 ⟨rfl, hb1⟩)
        go_ret
        exact ⟨rfl, hb1⟩
      · have h4 : tl s = [] := by rcases h with h | h | h | h <;> first | exact absurd h (by omega) | exact h
        have h5 : s.toList.isEmpty = true := by rw [Lib.toList_data]; show (tl s).isEmpty = true; rw [h4]; rfl
        go_wp2_with (go_at_call 6; refine (alive_any _).mono ?_; rintro e w1 ⟨rfl, hb1⟩)
        go_ret
        exact ⟨rfl, hb1⟩

set_option maxRecDepth 100000 in
set_option maxHeartbeats 8000000 in
theorem lon_main (n : Nat) (s : ByteArray) (y : Bool) (w : World) (h1 : 1 ≤ n) (h2 : n ≤ 40) (h3 : s.size ≤ 50) (h4 : tl s ≠ []) :
    Calls Tryd.prog 5 #[.int .i64 n, .string s, .bool y] w fun e w' => e = .returned (.bool true) ∧ Below w.heap.size w w' := by
  obtain ⟨i0, hi, hz0, hz1, hz2⟩ := info_parts info9
  have h5 : s.toList.isEmpty = false := by
    rw [Lib.toList_data]; show (tl s).isEmpty = false
    cases h : tl s with
    | nil => exact absurd h h4
    | cons _ _ => rfl
  have g1 : ¬ (n : Int) < 1 := by omega
  have g2 : ¬ 40 < (n : Int) := by omega
  have g3 : ¬ 50 < (s.size : Int) := by omega
  have H4 := hide' h4
  clear h4
  go_enter Tryd.func5, Tryd.ntmps5
  go_wp2_with fail
  refine (alive_any _).mono ?_
  rintro e w1 ⟨rfl, hb1⟩
  go_wp2
  go_loop [8] (fun i => ∃ k : Nat, k ≤ s.size ∧ i = .int .i64 k ∧ Hid (∀ c ∈ (tl s).take k, ¬ c = 32 ∧ ¬ c = 9 ∧ ¬ c = 10 ∧ ¬ c = 92 ∧ ¬ c = 35)) (fun i => s.size - (intOf i).toNat)
  case atStart => exact ⟨0, Nat.zero_le _, rfl, fun c hc => by simp at hc⟩
  case round =>
    obtain ⟨k, hk, rfl, HK⟩ := hrel
    by_cases hlt : k < s.size
    · go_wp2
      case roundEnd =>
        rename_i hh
        have no : ∀ c : UInt8, ∀ cn : Nat, c.toNat = cn → ((s[k].toNat : Int) == (cn : Int)) = false → ¬ s[k] = c := fun c cn h1 h2 h3 => by rw [beq_yes s[k] c cn h1 h3] at h2; cases h2
        have HK' : Hid (∀ c ∈ (tl s).take (k + 1), ¬ c = 32 ∧ ¬ c = 9 ∧ ¬ c = 10 ∧ ¬ c = 92 ∧ ¬ c = 35) := fun c hc => by
          rw [take_at s k hlt] at hc
          rcases List.mem_append.1 hc with hc | hc
          · exact HK.out c hc
          · rw [List.mem_singleton.1 hc]
            exact ⟨no 32 32 rfl hh.1.1.1.1, no 9 9 rfl hh.1.1.1.2, no 10 10 rfl hh.1.1.2, no 92 92 rfl hh.1.2, no 35 35 rfl hh.2⟩
        exact ⟨⟨k + 1, by omega, by go_num, HK'⟩, by simp [intOf]; omega⟩
      all_goals (go_ret; exact ⟨rfl, hb1⟩)
    · obtain rfl : k = s.size := by omega
      have hwd : Wd (tl s) := ⟨H4.out, fun c hc => HK.out c (by rw [take_all]; exact hc)⟩
      have HWD := hide' hwd
      clear HK H4 hwd
      go_wp2
      go_loopw [10, 11, 12] (fun l t i wr => ∃ (k : Nat) (L : List ByteArray) (T : ByteArray), k ≤ n ∧ t = .string T ∧ i = .int .i64 k ∧ L.length = k ∧ T.size ≤ 2080 ∧ wr.ownsRow w.heap.size 9 1 l L.length (L.map Value.string) ∧ Below w.heap.size w wr ∧ Hid (L.map tl = pieces (tl s) y n k ∧ tl T = wantT (tl s) y k)) (fun _ _ i _ => n - (intOf i).toNat)
      case atStart => exact ⟨0, [], ⟨#[]⟩, Nat.zero_le _, rfl, rfl, rfl, by decide, World.ownsRow_nil _ _ _ _, hb1, ⟨rfl, rfl⟩⟩
      case round =>
        obtain ⟨k, L, T, hk, rfl, rfl, hLk, hTs, hrow, hB, HI⟩ := hrel
        have hsz := hB.size
        have hpb : L.length + 1 ≤ maxLen := by unfold maxLen; omega
        have hbb : (L.length + 1) * 16 ≤ 140737488355328 := by omega
        have h2b : ∀ o, w.heap.size ≤ (wr.alloc o).heap.size := fun o => by simp; omega
        have hs50 : (tl s).length ≤ 50 := by rw [tl_len]; exact h3
        have step : ∀ (P T' : ByteArray), tl P = piece (tl s) y (decide (k + 1 < n)) → tl T' = wantT (tl s) y (k + 1) → (k < n) → T'.size ≤ 2080 ∧ Hid ((L ++ [P]).map tl = pieces (tl s) y n (k + 1) ∧ tl T' = wantT (tl s) y (k + 1)) := fun P T' hP hT' hkn => by
          refine ⟨?_, ?_, hT'⟩
          · have hw := want_len (tl s) y (k + 1)
            rw [← hT', tl_len] at hw
            have : (k + 1) * ((tl s).length + 2) ≤ 40 * 52 := Nat.mul_le_mul (by omega) (by omega)
            omega
          · rw [pieces_succ, List.map_append, List.map_singleton, hP, HI.out.1]
        have HSTEP := hide' step
        have HLK := hide' hLk
        clear step hLk
        by_cases hlt : k < n
        · have hlt' : (k : Int) < n := by omega
          cases y with
          | true =>
            by_cases hm : k + 1 < n
            · by_cases hf : k = 0
              · have hT0 : tl T = wantT (tl s) true k := HI.out.2
                obtain ⟨hT's, HI'⟩ := HSTEP.out (((⟨#[9]⟩ : ByteArray) ++ s) ++ ⟨#[92]⟩) (T ++ s) (by simp only [tl_app]; rw [decide_eq_true hm]; simp [piece, body, tl]) (by simp only [tl_app, hT0]; subst hf; simp [wantT]) hlt
                have m1 : (k : Int) + 1 < n := by omega
                have f1 : ¬ (0 : Int) < k := by omega
                have f2 : ¬ 0 < k := by omega
                have f3 : decide (0 < k) = false := decide_eq_false f2
                clear hm hf hT0 HSTEP
                go_wp2_with (at_builtin; refine wpList_append_own _ rfl _ _ 23 rfl w.heap.size 9 i0 (.string ⟨#[]⟩) 1 16 Tryd.underlying23 hi hz0 hz1 hz2 rfl (by decide) _ _ _ rfl (hrow.alloc _) ⟨wr.heap.size, 0, none⟩ 1 1 [.string (((⟨#[9]⟩ : ByteArray) ++ s) ++ ⟨#[92]⟩)] rfl rfl (cell_one_new _ _ _) (by simp [Value.oneCell']) hpb hbb (h2b _) ?_; intro v' w2 hown' hgrow _)
                have hB2 := app_below hB hsz hrow hgrow
                exact ⟨⟨k + 1, L ++ [((⟨#[9]⟩ : ByteArray) ++ s) ++ ⟨#[92]⟩], T ++ s, by omega, by simp, by go_num, by simp [HLK.out], hT's, by simpa using hown', hB2, HI'⟩, by simp [intOf]; omega⟩
              · have hT0 : tl T = wantT (tl s) true k := HI.out.2
                obtain ⟨hT's, HI'⟩ := HSTEP.out (((⟨#[9]⟩ : ByteArray) ++ s) ++ ⟨#[92]⟩) (T ++ ⟨#[92, 10]⟩ ++ s) (by simp only [tl_app]; rw [decide_eq_true hm]; simp [piece, body, tl]) (by simp only [tl_app, hT0]; rw [want_next _ _ _ (by omega)]; simp [tl]) hlt
                have m1 : (k : Int) + 1 < n := by omega
                have f1 : (0 : Int) < k := by omega
                have f2 : 0 < k := by omega
                have f3 : decide (0 < k) = true := decide_eq_true f2
                clear hm hf hT0 HSTEP
                go_wp2_with (at_builtin; refine wpList_append_own _ rfl _ _ 23 rfl w.heap.size 9 i0 (.string ⟨#[]⟩) 1 16 Tryd.underlying23 hi hz0 hz1 hz2 rfl (by decide) _ _ _ rfl (hrow.alloc _) ⟨wr.heap.size, 0, none⟩ 1 1 [.string (((⟨#[9]⟩ : ByteArray) ++ s) ++ ⟨#[92]⟩)] rfl rfl (cell_one_new _ _ _) (by simp [Value.oneCell']) hpb hbb (h2b _) ?_; intro v' w2 hown' hgrow _)
                have hB2 := app_below hB hsz hrow hgrow
                exact ⟨⟨k + 1, L ++ [((⟨#[9]⟩ : ByteArray) ++ s) ++ ⟨#[92]⟩], T ++ ⟨#[92, 10]⟩ ++ s, by omega, by simp, by go_num, by simp [HLK.out], hT's, by simpa using hown', hB2, HI'⟩, by simp [intOf]; omega⟩
            · by_cases hf : k = 0
              · have hT0 : tl T = wantT (tl s) true k := HI.out.2
                obtain ⟨hT's, HI'⟩ := HSTEP.out ((⟨#[9]⟩ : ByteArray) ++ s) (T ++ s) (by simp only [tl_app]; rw [decide_eq_false hm]; simp [piece, body, tl]) (by simp only [tl_app, hT0]; subst hf; simp [wantT]) hlt
                have m1 : ¬ (k : Int) + 1 < n := by omega
                have f1 : ¬ (0 : Int) < k := by omega
                have f2 : ¬ 0 < k := by omega
                have f3 : decide (0 < k) = false := decide_eq_false f2
                clear hm hf hT0 HSTEP
                go_wp2_with (at_builtin; refine wpList_append_own _ rfl _ _ 23 rfl w.heap.size 9 i0 (.string ⟨#[]⟩) 1 16 Tryd.underlying23 hi hz0 hz1 hz2 rfl (by decide) _ _ _ rfl (hrow.alloc _) ⟨wr.heap.size, 0, none⟩ 1 1 [.string ((⟨#[9]⟩ : ByteArray) ++ s)] rfl rfl (cell_one_new _ _ _) (by simp [Value.oneCell']) hpb hbb (h2b _) ?_; intro v' w2 hown' hgrow _)
                have hB2 := app_below hB hsz hrow hgrow
                exact ⟨⟨k + 1, L ++ [(⟨#[9]⟩ : ByteArray) ++ s], T ++ s, by omega, by simp, by go_num, by simp [HLK.out], hT's, by simpa using hown', hB2, HI'⟩, by simp [intOf]; omega⟩
              · have hT0 : tl T = wantT (tl s) true k := HI.out.2
                obtain ⟨hT's, HI'⟩ := HSTEP.out ((⟨#[9]⟩ : ByteArray) ++ s) (T ++ ⟨#[92, 10]⟩ ++ s) (by simp only [tl_app]; rw [decide_eq_false hm]; simp [piece, body, tl]) (by simp only [tl_app, hT0]; rw [want_next _ _ _ (by omega)]; simp [tl]) hlt
                have m1 : ¬ (k : Int) + 1 < n := by omega
                have f1 : (0 : Int) < k := by omega
                have f2 : 0 < k := by omega
                have f3 : decide (0 < k) = true := decide_eq_true f2
                clear hm hf hT0 HSTEP
                go_wp2_with (at_builtin; refine wpList_append_own _ rfl _ _ 23 rfl w.heap.size 9 i0 (.string ⟨#[]⟩) 1 16 Tryd.underlying23 hi hz0 hz1 hz2 rfl (by decide) _ _ _ rfl (hrow.alloc _) ⟨wr.heap.size, 0, none⟩ 1 1 [.string ((⟨#[9]⟩ : ByteArray) ++ s)] rfl rfl (cell_one_new _ _ _) (by simp [Value.oneCell']) hpb hbb (h2b _) ?_; intro v' w2 hown' hgrow _)
                have hB2 := app_below hB hsz hrow hgrow
                exact ⟨⟨k + 1, L ++ [(⟨#[9]⟩ : ByteArray) ++ s], T ++ ⟨#[92, 10]⟩ ++ s, by omega, by simp, by go_num, by simp [HLK.out], hT's, by simpa using hown', hB2, HI'⟩, by simp [intOf]; omega⟩
          | false =>
            by_cases hm : k + 1 < n
            · by_cases hf : k = 0
              · have hT0 : tl T = wantT (tl s) false k := HI.out.2
                obtain ⟨hT's, HI'⟩ := HSTEP.out (((⟨#[32, 32]⟩ : ByteArray) ++ s ++ ⟨#[32, 9]⟩) ++ ⟨#[92]⟩) (T ++ s) (by simp only [tl_app]; rw [decide_eq_true hm]; simp [piece, body, tl]) (by simp only [tl_app, hT0]; subst hf; simp [wantT]) hlt
                have m1 : (k : Int) + 1 < n := by omega
                have f1 : ¬ (0 : Int) < k := by omega
                have f2 : ¬ 0 < k := by omega
                have f3 : decide (0 < k) = false := decide_eq_false f2
                clear hm hf hT0 HSTEP
                go_wp2_with (at_builtin; refine wpList_append_own _ rfl _ _ 23 rfl w.heap.size 9 i0 (.string ⟨#[]⟩) 1 16 Tryd.underlying23 hi hz0 hz1 hz2 rfl (by decide) _ _ _ rfl (hrow.alloc _) ⟨wr.heap.size, 0, none⟩ 1 1 [.string (((⟨#[32, 32]⟩ : ByteArray) ++ s ++ ⟨#[32, 9]⟩) ++ ⟨#[92]⟩)] rfl rfl (cell_one_new _ _ _) (by simp [Value.oneCell']) hpb hbb (h2b _) ?_; intro v' w2 hown' hgrow _)
                have hB2 := app_below hB hsz hrow hgrow
                exact ⟨⟨k + 1, L ++ [((⟨#[32, 32]⟩ : ByteArray) ++ s ++ ⟨#[32, 9]⟩) ++ ⟨#[92]⟩], T ++ s, by omega, by simp, by go_num, by simp [HLK.out], hT's, by simpa using hown', hB2, HI'⟩, by simp [intOf]; omega⟩
              · have hT0 : tl T = wantT (tl s) false k := HI.out.2
                obtain ⟨hT's, HI'⟩ := HSTEP.out (((⟨#[32, 32]⟩ : ByteArray) ++ s ++ ⟨#[32, 9]⟩) ++ ⟨#[92]⟩) (T ++ ⟨#[32]⟩ ++ s) (by simp only [tl_app]; rw [decide_eq_true hm]; simp [piece, body, tl]) (by simp only [tl_app, hT0]; rw [want_next _ _ _ (by omega)]; simp [tl]) hlt
                have m1 : (k : Int) + 1 < n := by omega
                have f1 : (0 : Int) < k := by omega
                have f2 : 0 < k := by omega
                have f3 : decide (0 < k) = true := decide_eq_true f2
                clear hm hf hT0 HSTEP
                go_wp2_with (at_builtin; refine wpList_append_own _ rfl _ _ 23 rfl w.heap.size 9 i0 (.string ⟨#[]⟩) 1 16 Tryd.underlying23 hi hz0 hz1 hz2 rfl (by decide) _ _ _ rfl (hrow.alloc _) ⟨wr.heap.size, 0, none⟩ 1 1 [.string (((⟨#[32, 32]⟩ : ByteArray) ++ s ++ ⟨#[32, 9]⟩) ++ ⟨#[92]⟩)] rfl rfl (cell_one_new _ _ _) (by simp [Value.oneCell']) hpb hbb (h2b _) ?_; intro v' w2 hown' hgrow _)
                have hB2 := app_below hB hsz hrow hgrow
                exact ⟨⟨k + 1, L ++ [((⟨#[32, 32]⟩ : ByteArray) ++ s ++ ⟨#[32, 9]⟩) ++ ⟨#[92]⟩], T ++ ⟨#[32]⟩ ++ s, by omega, by simp, by go_num, by simp [HLK.out], hT's, by simpa using hown', hB2, HI'⟩, by simp [intOf]; omega⟩
            · by_cases hf : k = 0
              · have hT0 : tl T = wantT (tl s) false k := HI.out.2
                obtain ⟨hT's, HI'⟩ := HSTEP.out ((⟨#[32, 32]⟩ : ByteArray) ++ s ++ ⟨#[32, 9]⟩) (T ++ s) (by simp only [tl_app]; rw [decide_eq_false hm]; simp [piece, body, tl]) (by simp only [tl_app, hT0]; subst hf; simp [wantT]) hlt
                have m1 : ¬ (k : Int) + 1 < n := by omega
                have f1 : ¬ (0 : Int) < k := by omega
                have f2 : ¬ 0 < k := by omega
                have f3 : decide (0 < k) = false := decide_eq_false f2
                clear hm hf hT0 HSTEP
                go_wp2_with (at_builtin; refine wpList_append_own _ rfl _ _ 23 rfl w.heap.size 9 i0 (.string ⟨#[]⟩) 1 16 Tryd.underlying23 hi hz0 hz1 hz2 rfl (by decide) _ _ _ rfl (hrow.alloc _) ⟨wr.heap.size, 0, none⟩ 1 1 [.string ((⟨#[32, 32]⟩ : ByteArray) ++ s ++ ⟨#[32, 9]⟩)] rfl rfl (cell_one_new _ _ _) (by simp [Value.oneCell']) hpb hbb (h2b _) ?_; intro v' w2 hown' hgrow _)
                have hB2 := app_below hB hsz hrow hgrow
                exact ⟨⟨k + 1, L ++ [(⟨#[32, 32]⟩ : ByteArray) ++ s ++ ⟨#[32, 9]⟩], T ++ s, by omega, by simp, by go_num, by simp [HLK.out], hT's, by simpa using hown', hB2, HI'⟩, by simp [intOf]; omega⟩
              · have hT0 : tl T = wantT (tl s) false k := HI.out.2
                obtain ⟨hT's, HI'⟩ := HSTEP.out ((⟨#[32, 32]⟩ : ByteArray) ++ s ++ ⟨#[32, 9]⟩) (T ++ ⟨#[32]⟩ ++ s) (by simp only [tl_app]; rw [decide_eq_false hm]; simp [piece, body, tl]) (by simp only [tl_app, hT0]; rw [want_next _ _ _ (by omega)]; simp [tl]) hlt
                have m1 : ¬ (k : Int) + 1 < n := by omega
                have f1 : (0 : Int) < k := by omega
                have f2 : 0 < k := by omega
                have f3 : decide (0 < k) = true := decide_eq_true f2
                clear hm hf hT0 HSTEP
                go_wp2_with (at_builtin; refine wpList_append_own _ rfl _ _ 23 rfl w.heap.size 9 i0 (.string ⟨#[]⟩) 1 16 Tryd.underlying23 hi hz0 hz1 hz2 rfl (by decide) _ _ _ rfl (hrow.alloc _) ⟨wr.heap.size, 0, none⟩ 1 1 [.string ((⟨#[32, 32]⟩ : ByteArray) ++ s ++ ⟨#[32, 9]⟩)] rfl rfl (cell_one_new _ _ _) (by simp [Value.oneCell']) hpb hbb (h2b _) ?_; intro v' w2 hown' hgrow _)
                have hB2 := app_below hB hsz hrow hgrow
                exact ⟨⟨k + 1, L ++ [(⟨#[32, 32]⟩ : ByteArray) ++ s ++ ⟨#[32, 9]⟩], T ++ ⟨#[32]⟩ ++ s, by omega, by simp, by go_num, by simp [HLK.out], hT's, by simpa using hown', hB2, HI'⟩, by simp [intOf]; omega⟩
        · obtain rfl : k = n := by omega
          obtain ⟨al, cl, rfl, hcl, hTx, hal⟩ := (Strs.of_row hrow).txt
          obtain ⟨b, off, rfl⟩ := hal (by rw [HLK.out]; exact h1)
          have hzs : Szs L := szs_of (by
            rw [HI.out.1]
            have ht := tot_pieces (tl s) y k k
            have : k * ((tl s).length + 6) ≤ 40 * 56 := Nat.mul_le_mul h2 (by omega)
            omega)
          have kn := next_some L b off cl 0 wr hzs hTx (by rw [HLK.out]; exact h1) hcl
          obtain ⟨o1, o2, o3⟩ := on_all HWD.out y k h1
          rw [HI.out.1, o1, o2, o3] at kn
          have HT0 := hide' HI.out.2
          have HLL := HLK.out
          rw [HLL] at kn
          rw [HLL]
          clear o1 o2 o3 hzs hTx HSTEP hpb hbb h2b hrow HI HLK hal
          cases y with
          | true =>
            have ht : mk (onT (tl s) true k) = T := tl_inj _ _ (by rw [tl_mk, HT0.out]; rfl)
            rw [ht] at kn
            clear ht
            go_wp2_with fail
            refine kn.mono ?_
            rintro e w3 ⟨rfl, hb3⟩
            have hB3 : Below w.heap.size w w3 := hB.trans (hb3.mono hsz)
            go_wp2
            go_ret
            exact ⟨rfl, hB3.alloc hB3.size _⟩
          | false =>
            obtain ⟨Z1, hZ1⟩ : ∃ Z1, (⟨#[32, 32]⟩ : ByteArray) ++ T = Z1 := ⟨_, rfl⟩
            obtain ⟨Z, hZ⟩ : ∃ Z, Z1 ++ (⟨#[32, 9]⟩ : ByteArray) = Z := ⟨_, rfl⟩
            have ht : mk (onT (tl s) false k) = Z := tl_inj _ _ (by rw [tl_mk, ← hZ, ← hZ1, tl_app, tl_app, HT0.out]; rfl)
            have hz1s : Z1.size ≤ 3000 := by rw [← tl_len, ← hZ1, tl_app, List.length_append, tl_len T]; show 2 + T.size ≤ 3000; omega
            rw [ht] at kn
            clear ht
            go_wp2_with fail
            refine kn.mono ?_
            rintro e w3 ⟨rfl, hb3⟩
            have hB3 : Below w.heap.size w w3 := hB.trans (hb3.mono hsz)
            go_wp2
            go_ret
            exact ⟨rfl, hB3.alloc hB3.size _⟩

theorem lon_any (n : Int) (s : ByteArray) (y : Bool) (w : World) (hs : s.size ≤ maxLen) :
    Calls Tryd.prog 5 #[.int .i64 n, .string s, .bool y] w fun e w' => e = .returned (.bool true) ∧ Below w.heap.size w w' := by
  by_cases h1 : n < 1
  · exact lon_out n s y w hs (.inl h1)
  · by_cases h2 : 40 < n
    · exact lon_out n s y w hs (.inr (.inl h2))
    · by_cases h3 : 50 < s.size
      · exact lon_out n s y w hs (.inr (.inr (.inl h3)))
      · by_cases h4 : tl s = []
        · exact lon_out n s y w hs (.inr (.inr (.inr h4)))
        · obtain ⟨m, rfl⟩ := Int.eq_ofNat_of_zero_le (show 0 ≤ n by omega)
          exact lon_main m s y w (by omega) (by omega) (by omega) h4
end Go.Proofs.YteleakbefebabaaDoor
