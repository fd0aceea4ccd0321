/- The contract of refs.arguments. -/
import Derived.Test.YtaemmgllhmjceaaDoorAp
import Derived.Test.YtaemmgllhmjceaaDoorRb
namespace Go.Proofs.YtaemmgllhmjceaaDoor
open Go.RowKit

/-- a text's value -/
def sV (x : Bs) : Value := .string (mk x)
/-- a row of another type has grown -/
theorem NestAt.grow {w w' : World} {A B : Nat} {st : Bs} {ov : Value} {tmp : Obj} (h : NestAt w A B st ov) {B' e size n : Nat} {v : Value} {xs : List Value} (hr : w.ownsRow B' e size v n xs) (h5 : e ≠ 5) (h72 : e ≠ 72) (hg : (w.alloc tmp).grownBy w' v.ownBlock) : NestAt w' A B st ov := by
  have hlt := h.lt
  have key : ∀ k, k < w.heap.size → v.ownBlock ≠ some k → w'.heap[k]? = w.heap[k]? := fun k hk hn => (hg.block k (by simp; omega) (fun e => hn e.symm)).trans (Below.heap_alloc _ _ k hk)
  refine ⟨(key A hlt (own_block hr h.blk (Ne.symm h72))).trans h.blk, own_kept h.row fun g hgg => key g (own_lt h.row g hgg) (own_apart h.row hr (Ne.symm h5) hgg), h.low⟩
set_option maxRecDepth 100000 in
set_option maxHeartbeats 8000000 in
theorem arguments_any (s : ByteArray) (hs : s.size ≤ 100000) (m : Int) (w : World) :
    Calls Tryd.prog 34 #[.string s, .int .i64 m] w fun e w' => ∃ v, e = .returned v ∧ w'.ownsRow w.heap.size 9 1 v (arg m [] [] [] (tl s)).length ((arg m [] [] [] (tl s)).map sV) ∧ Below w.heap.size w w' := by
  obtain ⟨i0, hi, hz0, hz1, hz2⟩ := info_parts info9
  obtain ⟨R, hR⟩ : ∃ R, R = arg m [] [] [] (tl s) := ⟨_, rfl⟩
  have HR := hide' hR
  rw [← hR]
  clear hR
  go_enter Tryd.func34, Tryd.ntmps34
  go_wp2
  go_loopw [5, 7, 12] (fun lv fv i wr => ∃ (k f : Nat) (st : List Bool) (acc : List Bs) (ov : Value), k ≤ s.size ∧ f ≤ k ∧ acc.length ≤ k ∧ st.length ≤ k ∧ fv = .int .i64 f ∧ i = .int .i64 k ∧ NestAt wr w.heap.size w.heap.size (st.map clB) ov ∧ wr.ownsRow w.heap.size 9 1 lv acc.length (acc.map sV) ∧ Below w.heap.size w wr ∧ Hid (ArI m s R k f st acc)) (fun _ _ i _ => s.size - (intOf i).toNat)
  case atStart => exact ⟨0, 0, [], [], _, Nat.zero_le _, Nat.le_refl _, Nat.le_refl _, Nat.le_refl _, rfl, rfl, nest_new w, World.ownsRow_nil _ _ _ _, (Below.refl _ w).alloc (Nat.le_refl _) _, HR.out.symm⟩
  case round =>
    clear HR
    obtain ⟨k, f, st, acc, ov, hk, hf, hac, hst, rfl, rfl, hN, hrow, hB, HI⟩ := hrel
    obtain ⟨la, lc, rfl⟩ := own_len hrow
    have hsz := hB.size
    have hpb : acc.length + 1 ≤ maxLen := by unfold maxLen; omega
    have hbb : (acc.length + 1) * 16 ≤ 140737488355328 := by omega
    by_cases hlt : k < s.size
    · skip
      by_cases c1 : s[k] = 40
      · have e1 : ((s[k].toNat : Int) == 40) = true := beq_yes _ 40 40 rfl c1
        have hq : s[k] = opB true := c1
        clear c1
        · have HI' := hide' (ari_open hlt hf true hq HI.out)
          have kE := enter_any wr w.heap.size w.heap.size (st.map clB) ov 41 hN (by rw [List.length_map]; omega)
          rw [show (st.map clB ++ [41]) = (st ++ [true]).map clB from by rw [List.map_append]; rfl] at kE
          have hge := hN.ge
          have hkeep := fun (w' : World) (ht : Turn (nestS w.heap.size ov) wr w') => hN.keep ht hrow (by decide) (by decide)
          have hpl := popB_len st true
          clear hq HI hN hrow
          go_wp2_with (go_at_call 40; refine kE.mono ?_; rintro e w1 ⟨rfl, ht, ov', hn'⟩)
          have hrow' := hkeep _ ht
          have hB' := hB.trans (ht.below hsz hge)
          exact ⟨⟨k + 1, f, st ++ [true], acc, ov', by omega, by omega, by omega, by first | (simp; omega) | omega, rfl, by go_num, hn', hrow', hB', HI'⟩, by simp [intOf]; omega⟩
      have e1 : ((s[k].toNat : Int) == 40) = false := beq_no _ 40 40 rfl c1
      by_cases c2 : s[k] = 123
      · have e2 : ((s[k].toNat : Int) == 123) = true := beq_yes _ 123 123 rfl c2
        have hq : s[k] = opB false := c2
        clear c1 c2
        · have HI' := hide' (ari_open hlt hf false hq HI.out)
          have kE := enter_any wr w.heap.size w.heap.size (st.map clB) ov 125 hN (by rw [List.length_map]; omega)
          rw [show (st.map clB ++ [125]) = (st ++ [false]).map clB from by rw [List.map_append]; rfl] at kE
          have hge := hN.ge
          have hkeep := fun (w' : World) (ht : Turn (nestS w.heap.size ov) wr w') => hN.keep ht hrow (by decide) (by decide)
          have hpl := popB_len st false
          clear hq HI hN hrow
          go_wp2_with (go_at_call 40; refine kE.mono ?_; rintro e w1 ⟨rfl, ht, ov', hn'⟩)
          have hrow' := hkeep _ ht
          have hB' := hB.trans (ht.below hsz hge)
          exact ⟨⟨k + 1, f, st ++ [false], acc, ov', by omega, by omega, by omega, by first | (simp; omega) | omega, rfl, by go_num, hn', hrow', hB', HI'⟩, by simp [intOf]; omega⟩
      have e2 : ((s[k].toNat : Int) == 123) = false := beq_no _ 123 123 rfl c2
      by_cases c3 : s[k] = 41
      · have e3 : ((s[k].toNat : Int) == 41) = true := beq_yes _ 41 41 rfl c3
        have e3' : (s[k].toNat : Int) = 41 := by rw [c3]; rfl
        have hq : s[k] = clB true := c3
        clear c1 c2 c3
        · have HI' := hide' (ari_shut hlt hf true hq HI.out)
          have kE := leave_any wr w.heap.size w.heap.size (st.map clB) ov 41 hN (by rw [List.length_map]; omega)
          rw [show (pop (st.map clB) 41) = (popB st true).map clB from pop_map clB clB_inj st true] at kE
          have hge := hN.ge
          have hkeep := fun (w' : World) (ht : Turn (nestS w.heap.size ov) wr w') => hN.keep ht hrow (by decide) (by decide)
          have hpl := popB_len st true
          clear hq HI hN hrow
          go_wp2_with (go_at_call 41; refine kE.mono ?_; rintro e w1 ⟨rfl, ht, ov', hn'⟩)
          have hrow' := hkeep _ ht
          have hB' := hB.trans (ht.below hsz hge)
          exact ⟨⟨k + 1, f, popB st true, acc, ov', by omega, by omega, by omega, by first | (simp; omega) | omega, rfl, by go_num, hn', hrow', hB', HI'⟩, by simp [intOf]; omega⟩
      have e3 : ((s[k].toNat : Int) == 41) = false := beq_no _ 41 41 rfl c3
      by_cases c4 : s[k] = 125
      · have e4 : ((s[k].toNat : Int) == 125) = true := beq_yes _ 125 125 rfl c4
        have e4' : (s[k].toNat : Int) = 125 := by rw [c4]; rfl
        have hq : s[k] = clB false := c4
        clear c1 c2 c3 c4
        · have HI' := hide' (ari_shut hlt hf false hq HI.out)
          have kE := leave_any wr w.heap.size w.heap.size (st.map clB) ov 125 hN (by rw [List.length_map]; omega)
          rw [show (pop (st.map clB) 125) = (popB st false).map clB from pop_map clB clB_inj st false] at kE
          have hge := hN.ge
          have hkeep := fun (w' : World) (ht : Turn (nestS w.heap.size ov) wr w') => hN.keep ht hrow (by decide) (by decide)
          have hpl := popB_len st false
          clear hq HI hN hrow
          go_wp2_with (go_at_call 41; refine kE.mono ?_; rintro e w1 ⟨rfl, ht, ov', hn'⟩)
          have hrow' := hkeep _ ht
          have hB' := hB.trans (ht.below hsz hge)
          exact ⟨⟨k + 1, f, popB st false, acc, ov', by omega, by omega, by omega, by first | (simp; omega) | omega, rfl, by go_num, hn', hrow', hB', HI'⟩, by simp [intOf]; omega⟩
      have e4 : ((s[k].toNat : Int) == 125) = false := beq_no _ 125 125 rfl c4
      by_cases c5 : s[k] = 44
      · have e5 : ((s[k].toNat : Int) == 44) = true := beq_yes _ 44 44 rfl c5
        have kN := none_any _ _ _ _ _ hN
        rw [List.length_map] at kN
        by_cases h1 : st = []
        · rw [show decide (st.length = 0) = true by rw [h1]; rfl] at kN
          by_cases h2 : (acc.length : Int) + 1 = m
          · have d2 : ((acc.length : Int) + 1 != m) = false := by rw [h2]; simp
            have HI' := hide' (ari_byte hlt hf c1 c2 c3 c4 (fun h => h.2.2 h2) HI.out)
            have HM := hide' h2
            clear c1 c2 c3 c4 c5 HI h1 h2
            go_wp2_with (go_at_call 42; refine kN.mono ?_; rintro e w1 ⟨rfl, rfl⟩)
            exact ⟨⟨k + 1, f, st, acc, ov, by omega, by omega, by omega, by omega, rfl, by go_num, hN, hrow, hB, HI'⟩, by simp [intOf]; omega⟩
          · have d2 : ((acc.length : Int) + 1 != m) = true := bne_iff_ne.2 h2
            have HI' := hide' (ari_cut hlt c5 h1 h2 HI.out)
            have kC := fun w => clone_any (s.extract f k) w (by rw [pc_ext, mk_size]; have := pc_len (tl s) f k; omega)
            have hx := pc_ext s f k
            rw [hx] at kC
            have HX := hide' hx
            generalize hp : mk (pc (tl s) f k) = p at kC hx HX
            have HP := hide' hp
            have HN := hide' hN
            clear c1 c2 c3 c4 c5 HI h1 h2 hN hp
            go_wp2_with (first | (go_at_call 42; refine kN.mono ?_; rintro e w1 ⟨rfl, rfl⟩) | (go_at_call 29; refine (kC _).mono ?_; rintro e w3 ⟨rfl, hb3⟩; have hrow3 := own_below hrow hb3; have hs3 := hb3.size; have h2b : ∀ o, w.heap.size ≤ (w3.alloc o).heap.size := fun o => by simp; omega) | (at_builtin; refine wpList_append_own _ rfl _ _ 28 rfl w.heap.size 9 i0 (.string ⟨#[]⟩) 1 16 Tryd.underlying28 hi hz0 hz1 hz2 rfl (by decide) _ _ _ rfl (hrow3.alloc _) ⟨w3.heap.size, 0, none⟩ 1 1 [.string p] rfl rfl (cell_one_new _ _ _) (by simp [Value.oneCell']) hpb hbb (h2b _) ?_; intro v' w4 hown' hgrow _))
            have hB3 := hB.trans (hb3.mono hB.size)
            have hB4 := app_below hB3 (by omega) hrow3 hgrow
            have hN4 := (HN.out.below hb3).grow hrow3 (by decide) (by decide) hgrow
            exact ⟨⟨k + 1, k + 1, st, acc ++ [pc (tl s) f k], ov, by omega, by omega, by simp; omega, by omega, by go_num, by go_num, hN4, by rw [List.map_append, List.length_append]; simp only [List.map_cons, List.map_nil, sV, HP.out]; exact hown', hB4, HI'⟩, by simp [intOf]; omega⟩
        · rw [show decide (st.length = 0) = false from decide_eq_false fun e => h1 (List.length_eq_zero_iff.1 e)] at kN
          have HI' := hide' (ari_byte hlt hf c1 c2 c3 c4 (fun h => h1 h.2.1) HI.out)
          clear c1 c2 c3 c4 c5 HI h1
          go_wp2_with (go_at_call 42; refine kN.mono ?_; rintro e w1 ⟨rfl, rfl⟩)
          exact ⟨⟨k + 1, f, st, acc, ov, by omega, by omega, by omega, by omega, rfl, by go_num, hN, hrow, hB, HI'⟩, by simp [intOf]; omega⟩
      · have e5 : ((s[k].toNat : Int) == 44) = false := beq_no _ 44 44 rfl c5
        have HI' := hide' (ari_byte hlt hf c1 c2 c3 c4 (fun h => c5 h.1) HI.out)
        clear c1 c2 c3 c4 c5 HI
        go_wp2
        exact ⟨⟨k + 1, f, st, acc, ov, by omega, by omega, by omega, by omega, rfl, by go_num, hN, hrow, hB, HI'⟩, by simp [intOf]; omega⟩
    · obtain rfl : k = s.size := by omega
      have HI' := hide' (ari_end HI.out)
      have kC := fun w => clone_any (s.extract f s.size) w (by rw [pc_end, mk_size]; have := pc_len (tl s) f s.size; omega)
      have hx := pc_end s f
      rw [hx] at kC
      generalize hp : mk (pc (tl s) f s.size) = p at kC hx
      have HP := hide' hp
      clear HI hN hp
      go_wp2_with (first | (go_at_call 29; refine (kC _).mono ?_; rintro e w3 ⟨rfl, hb3⟩; have hrow3 := own_below hrow hb3; have hs3 := hb3.size; have h2b : ∀ o, w.heap.size ≤ (w3.alloc o).heap.size := fun o => by simp; omega) | (at_builtin; refine wpList_append_own _ rfl _ _ 28 rfl w.heap.size 9 i0 (.string ⟨#[]⟩) 1 16 Tryd.underlying28 hi hz0 hz1 hz2 rfl (by decide) _ _ _ rfl (hrow3.alloc _) ⟨w3.heap.size, 0, none⟩ 1 1 [.string p] rfl rfl (cell_one_new _ _ _) (by simp [Value.oneCell']) hpb hbb (h2b _) ?_; intro v' w4 hown' hgrow _))
      have hB3 := hB.trans (hb3.mono hB.size)
      have hB4 := app_below hB3 (by omega) hrow3 hgrow
      go_ret
      refine ⟨_, rfl, ?_, hB4⟩
      rw [← HI'.out, List.map_append, List.length_append]
      simp only [List.map_cons, List.map_nil, sV, HP.out]
      exact hown'
end Go.Proofs.YtaemmgllhmjceaaDoor
