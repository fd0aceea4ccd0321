/- The walk of the reference's Special. -/
import Derived.Test.YtillechackcbpaaZRw
namespace Go.Proofs.Ytillechackcbpaa.Sp
open Go.RowKit Go.Shelf Go.Maps Go.Proofs.Ytillechackcbpaa.Pa
set_option maxRecDepth 100000 in
set_option maxHeartbeats 4000000 in
theorem rs_f (R : Nat) (v : Value) (L : Vs) (c d : UInt8) (w : World) (h : Rf w R v L) (hd : d = 70) (hc : isAuto c = true) (hf : (fnd L [c]).isSome = true) (ho : (getV L [c]).origin = 7) (hl : (getV L [c]).value.length ≤ 300000) :
    Calls Try.prog 19 #[.pointer (some ⟨R, 0, none⟩), .string (mk [c, d])] w fun r w' => r = .returned (.tuple #[.string (spW notDir (getV L [c]).value), .bool true]) ∧ Below w.heap.size w w' := by
  obtain ⟨s, hs⟩ : ∃ s, s = mk [c, d] := ⟨_, rfl⟩
  have h1 : s.size = 2 := by rw [hs]; rfl
  have h2 : s.extract 0 1 = ⟨#[c]⟩ := by rw [hs, ext_take, tl_mk]; rfl
  have h3 : ∀ hh : 1 < s.size, s[1] = d := by subst hs; intro _; rfl
  have h4 : ∀ hh : 0 < s.size, s[0] = c := by subst hs; intro _; rfl
  rw [← hs]
  clear hs
  have q := fun W => rindex_auto c W
  rw [hc] at q
  have q2 := rget_any R v L [c] w h
  subst hd
  clear h
  rw [hf] at q2
  obtain ⟨T, hT⟩ : ∃ T, T = spW notDir (getV L [c]).value := ⟨_, rfl⟩
  rw [← hT]
  generalize getV L [c] = g at q2 ho hl hT
  obtain ⟨xn, xv, xf, xo, xe⟩ := g
  dsimp only [vV] at q2 ho hl hT
  generalize mk xn = xn' at q2
  have ho' : (xo == 7) = true := by rw [show xo = 7 from ho]; rfl
  have q3 : Hid (∀ W, _) := fun W => rsplit_wds (mk xv) (by rw [mk_size]; exact hl) W
  rw [tl_mk] at q3
  have hw1 : (wds xv).length ≤ 300000 := by have := len_wds xv; omega
  have hw2 : Tx.tot ((wds xv).map (tx notDir)) ≤ 1000000 := by have := tot_map notDir (fun l => Nat.le_succ_of_le (notDir_len l)) (wds xv); have h2 := tot_wds xv; omega
  have HS : Hid (∀ x ∈ wds xv, x.size ≤ 1000000) := fun x hx => by have := size_wds xv x hx; omega
  have jq : Hid (∀ (v : Value) (W : World), Tx.Strz W v ((wds xv).map (tx notDir)) → Calls Try.prog 43 #[v] W fun e w' => e = .returned (.string T) ∧ Below W.heap.size W w') := fun v W h => by rw [hT]; exact Tx.rjoin_any _ v W hw2 (by rw [List.length_map]; omega) h
  clear hw2 hT hl ho
  generalize mk xv = xv' at q2 q3
  generalize wds xv = Z at q3 hw1 HS jq
  go_enter Try.func19, Try.ntmps19
  go_wp2_with fail
  refine (q _).mono ?_
  rintro e w1 ⟨⟨k, rfl, hk⟩, rfl⟩
  have hk' : ¬ k < 0 := by simpa using hk
  clear hk q
  go_wp2_with fail
  refine q2.mono ?_
  rintro r w2 ⟨rfl, hb2⟩
  have HX : Hid (Bx (w2.alloc (.cells #[.string xn', .string xv', .int .i64 xf, .int .i64 xo, .int .i64 xe] 36)) w2.heap.size xn' xv' xf xo xe) := heap_alloc_new w2 _
  have HB : Hid (Below w1.heap.size w1 (w2.alloc (.cells #[.string xn', .string xv', .int .i64 xf, .int .i64 xo, .int .i64 xe] 36))) := below_alloc hb2 (Nat.le_refl _) _
  have k1 := HX.out.c1
  have k3 := HX.out.c3
  clear HX hb2
  go_wp2_with fail
  refine (q3.out _).mono ?_
  rintro e w5 ⟨v, rfl, hb5, ⟨rfl, rfl⟩ | ⟨g, cap, rfl, hg, hl, hcap, hr⟩⟩
  · have HB5 := hide' (HB.out.trans (hb5.mono HB.out.size))
    clear hb5 HB k1 k3
    go_wp2
    go_loop [9] (fun i => i = .int .i64 0) (fun i => 0)
    case atStart => rfl
    case round =>
      subst hrel
      go_wp2_with fail
      refine (jq.out _ _ (.inr (.inl ⟨rfl, rfl⟩))).mono ?_
      rintro e w6 ⟨rfl, hb6⟩
      have HB6 := hide' (HB5.out.trans (hb6.mono HB5.out.size))
      clear hb6 HB5
      go_wp2
      go_ret2
      exact ⟨rfl, HB6.out⟩
  · have hg1 : w1.heap.size ≤ g := Nat.le_trans HB.out.size hg
    have HB5 := hide' (HB.out.trans (hb5.mono HB.out.size))
    have HR5 := hide' hr
    clear hb5 HB k1 k3 hr hg
    go_wp2
    go_loopw [9] (fun i wr => ∃ k : Nat, k ≤ Z.length ∧ i = .int .i64 k ∧ Rowz wr g (tu notDir Z k) ∧ Below w1.heap.size w1 wr) (fun i _ => Z.length - (intOf i).toNat)
    case atStart => exact ⟨0, Nat.zero_le _, rfl, HR5.out, HB5.out⟩
    case round =>
      obtain ⟨j, hj, rfl, hr, hB⟩ := hrel
      clear HR5 HB5
      by_cases hlt : j < Z.length
      · have c1 := hr.cell (j := j) (by rw [tu_len]; exact hlt)
        rw [tu_get notDir Z j hlt] at c1
        have hx : (Z.getD j ⟨#[]⟩).size ≤ 1000000 := HS.out _ (by rw [List.getD_eq_getElem?_getD, List.getElem?_eq_getElem hlt]; exact List.getElem_mem hlt)
        have HT := hide' (tu_set notDir Z j hlt)
        generalize Z.getD j ⟨#[]⟩ = x at c1 hx HT
        have fz := hr.fz j
        have HR := hide' hr
        have HB := hide' hB
        clear hr hB
        have hq := rnotDir_any x wr hx
        have he : mk (notDir (tl x)) = tx notDir x := rfl
        rw [he] at hq
        clear he hx
        generalize tx notDir x = y at hq HT
        go_wp2_with fail
        refine hq.mono ?_
        rintro e w6 ⟨rfl, rfl⟩
        go_wp2
        refine ⟨⟨j + 1, by omega, by go_num, ?_, HB.out.setCell hg1 _⟩, by simp [intOf]; omega⟩
        rw [← HT.out]
        exact HR.out.set j _
      · have hs2 := hr.strs (cap := cap) (by rw [tu_len]; exact hl) hcap
        rw [tu_len, tu_end notDir Z j (by omega)] at hs2
        have HQ := hide' (jq.out _ _ hs2)
        have HB := hide' hB
        clear hs2 hr hB
        go_wp2_with fail
        refine HQ.out.mono ?_
        rintro e w6 ⟨rfl, hb6⟩
        have HB6 := hide' (HB.out.trans (hb6.mono HB.out.size))
        clear hb6 HB
        go_wp2
        go_ret2
        exact ⟨rfl, HB6.out⟩
end Go.Proofs.Ytillechackcbpaa.Sp
