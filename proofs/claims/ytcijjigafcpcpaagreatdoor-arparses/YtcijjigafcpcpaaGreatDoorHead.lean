/- The contracts of ar.decimal, ar.nameable, ar.appendHead. -/
import Derived.Test.YtcijjigafcpcpaaGreatDoorStr
import Derived.Test.YtcijjigafcpcpaaGreatDoorAny
import Derived.Lib.SmallJoins
namespace Go.Proofs.YtcijjigafcpcpaaGreatDoor
open Go.RowKit Go.Maps Go.Shelf

theorem gW : Tryz.prog.globalNamed "anvil/ar.widths" = some 0 := by kernel_rfl
theorem gP : Tryz.prog.globalNamed "internal/strconv.uint64pow10" = some 1 := by kernel_rfl
def wids : List Int := [16, 12, 6, 6, 8, 10]
/-- what the package's and the library's variables hold -/
structure Env (w : World) : Prop where
  wid : Lib.TabIs Tryz.prog w "anvil/ar.widths" .i64 wids
  tab : Lib.TabIs Tryz.prog w "internal/strconv.uint64pow10" .u64 Lib.pow10Tab
theorem var_keep {P : Program} {B g : Nat} {W W' : World} {n : String} {cs : Array Value} (h : Below B W W') (hg : P.globalNamed n = some g) (hgB : g < B) (hv : W.var? P n = some cs) : W'.var? P n = some cs := by
  unfold World.var? at hv ⊢
  rw [hg] at hv ⊢
  simpa [h.block g hgB] using hv
theorem Env.keep {w w' : World} {B : Nat} (h : Env w) (hb : Below B w w') (hB : 1 < B) : Env w' := ⟨var_keep hb gW (by omega) h.wid, var_keep hb gP (by omega) h.tab⟩
theorem Env.cell {w : World} (h : Env w) (i : Nat) (hi : i < 6) : w.cell? ⟨0, i, none⟩ = some (.int .i64 (wids.getD i 0)) := h.wid.cell gW i hi
theorem below_grow (w : World) (k : Nat) (os : Array Obj) : Below w.heap.size w (Go.Sort.grow (w.drewN k) os) := by
  refine (below_drewn (B := w.heap.size) (w := w) k).trans ⟨rfl, rfl, rfl, by simp [Go.Sort.grow], fun j hj => ?_⟩
  simp only [Go.Sort.grow]
  rw [Array.getElem?_append_left]
  exact Nat.lt_of_lt_of_le hj (below_drewn (B := w.heap.size) (w := w) k).size
theorem decimal_any (n : Int) (h0 : -9223372036854775808 ≤ n) (h1 : n ≤ 9223372036854775807) (w : World) (h : Env w) :
    Calls Tryz.prog 37 #[.int .i64 n] w fun e w' => e = .returned (.string (mk (dec n))) ∧ Below w.heap.size w w' := by
  go_enter Tryz.func37, Tryz.ntmps37
  go_wp2_with (go_at_call 49; refine (Tryz.strconv_FormatInt_10 n h0 h1 _ h.tab).mono ?_; rintro e w' ⟨rfl, k, os, rfl⟩)
  go_ret
  exact ⟨rfl, below_grow _ _ _⟩
theorem nmb_has (b : Bs) : nmb b = (!b.isEmpty && decide (b.length ≤ 255) && !has b) := rfl
set_option maxRecDepth 100000 in
theorem name_any (b : Bs) (hs : b.length ≤ 1000000) (w : World) :
    Calls Tryz.prog 47 #[.string (mk b)] w fun e w' => e = .returned (.bool (nmb b)) ∧ Below w.heap.size w w' := by
  have q := fun w => contains_any (mk b) (by rw [mk_size]; exact hs) w
  rw [tl_mk] at q
  rw [nmb_has]
  have hsz := mk_size b
  by_cases h0 : b = []
  · subst h0
    go_enter Tryz.func47, Tryz.ntmps47
    go_wp2
    go_ret
    exact ⟨rfl, Below.refl _ _⟩
  · have e0 : b.isEmpty = false := by cases b with | nil => exact absurd rfl h0 | cons _ _ => rfl
    have e1 : (b == []) = false := beq_eq_false_iff_ne.2 h0
    by_cases h1 : b.length ≤ 255
    · have k1 : (b.length : Int) ≤ 255 := by omega
      rw [e0, decide_eq_true h1]
      cases hb : has b with
      | true =>
        rw [hb] at q
        go_enter Tryz.func47, Tryz.ntmps47
        go_wp2_with (go_at_call 56; refine (q _).mono ?_; rintro e w' ⟨rfl, hB⟩)
        go_ret
        exact ⟨rfl, hB⟩
      | false =>
        rw [hb] at q
        go_enter Tryz.func47, Tryz.ntmps47
        go_wp2_with (go_at_call 56; refine (q _).mono ?_; rintro e w' ⟨rfl, hB⟩)
        go_ret
        exact ⟨rfl, hB⟩
    · have k1 : ¬ (b.length : Int) ≤ 255 := by omega
      rw [e0, decide_eq_false h1]
      go_enter Tryz.func47, Tryz.ntmps47
      go_wp2
      go_ret
      exact ⟨by simp, Below.refl _ _⟩
def padAll : List Nat → List Bs → Bs
  | n :: ns, c :: cs => pad n c ++ padAll ns cs
  | _, _ => []
theorem padAll_take : ∀ (ns : List Nat) (cs : List Bs) (k : Nat) (n : Nat) (c : Bs), ns[k]? = some n → cs[k]? = some c → padAll ns (cs.take (k + 1)) = padAll ns (cs.take k) ++ pad n c
  | [], _, k, n, c, h, _ => by simp at h
  | _ :: _, [], k, n, c, _, h => by simp at h
  | n' :: ns, c' :: cs, 0, n, c, h1, h2 => by
    obtain rfl : n' = n := by simpa using h1
    obtain rfl : c' = c := by simpa using h2
    simp [padAll]
  | n' :: ns, c' :: cs, k + 1, n, c, h1, h2 => by
    have := padAll_take ns cs k n c (by simpa using h1) (by simpa using h2)
    simp only [List.take_succ_cons, padAll, this, List.append_assoc]
def widN : List Nat := [16, 12, 6, 6, 8, 10]
theorem headB_all (a b c d e f : Bs) : headB a b c d e f = padAll widN [a, b, c, d, e, f] ++ [96, 10] := by simp [headB, padAll, widN]
theorem pad_len (n : Nat) (c : Bs) : (pad n c).length ≤ n + c.length := by unfold pad; simp; omega
theorem padAll_len : ∀ (ns : List Nat) (cs : List Bs) (M W : Nat), (∀ c ∈ cs, c.length ≤ M) → (∀ n ∈ ns, n ≤ W) → (padAll ns cs).length ≤ cs.length * (M + W)
  | [], _, _, _, _, _ => by simp [padAll]
  | _ :: _, [], _, _, _, _ => by simp [padAll]
  | n :: ns, c :: cs, M, W, h1, h2 => by
    have h3 := padAll_len ns cs M W (fun x hx => h1 x (List.mem_cons_of_mem _ hx)) (fun x hx => h2 x (List.mem_cons_of_mem _ hx))
    have h4 := pad_len n c
    have h5 := h1 c List.mem_cons_self
    have h6 := h2 n List.mem_cons_self
    simp only [padAll, List.length_append, List.length_cons, Nat.add_mul, Nat.one_mul]
    omega
/-- a row of texts -/
def Cols (w : World) (cb : Nat) (cols : List Bs) : Prop := ∃ cs : Array Value, w.heap[cb]? = some (.cells cs 9 (0, 0)) ∧ ∀ (j : Nat) (c : Bs), cols[j]? = some c → cs[j]? = some (Value.string (mk c))
theorem Cols.cell {w : World} {cb : Nat} {cols : List Bs} (h : Cols w cb cols) (j : Nat) (c : Bs) (hj : cols[j]? = some c) : w.cell? ⟨cb, j, none⟩ = some (.string (mk c)) := by
  obtain ⟨cs, h1, h2⟩ := h
  rw [Lib.cell_of_heap h1]
  exact h2 j c hj
theorem Cols.lt {w : World} {cb : Nat} {cols : List Bs} (h : Cols w cb cols) : cb < w.heap.size := by
  obtain ⟨cs, h1, _⟩ := h
  exact lt_of_block h1
theorem Cols.grown {w w' : World} {cb : Nat} {cols : List Bs} {v : Value} {bs : Bs} (h : Cols w cb cols) (hv : Dat w v bs) (hg : w.grownBy w' v.ownBlock) : Cols w' cb cols := by
  obtain ⟨cs, h1, h2⟩ := h
  refine ⟨cs, (hg.block cb (lt_of_block h1) fun e => ?_).trans h1, h2⟩
  obtain ⟨cur, hc⟩ := hv.elem cb e.symm
  rw [h1] at hc
  simp at hc
theorem Cols.below {w w' : World} {cb : Nat} {cols : List Bs} (h : Cols w cb cols) (hb : Below w.heap.size w w') : Cols w' cb cols := by
  obtain ⟨cs, h1, h2⟩ := h
  exact ⟨cs, (hb.block cb (lt_of_block h1)).trans h1, h2⟩
set_option maxRecDepth 100000 in
set_option maxHeartbeats 4000000 in
/-- appendHead -/
theorem ahead_any (v : Value) (bs : Bs) (cb cc : Nat) (cols : List Bs) (w : World) (hv : Dat w v bs) (hO : OwnB 2 v) (hN : 2 ≤ w.heap.size) (hE : Env w) (hC : Cols w cb cols) (h6 : cols.length = 6) (hcl : ∀ c ∈ cols, c.length ≤ 300) (hsz : bs.length ≤ 900000000) :
    Calls Tryz.prog 36 #[v, .slice (some ⟨cb, 0, none⟩) 6 cc] w fun r w' => ∃ v', r = .returned v' ∧ Dat w' v' (bs ++ (padAll widN cols ++ [96, 10])) ∧ Grw w v.ownBlock w' v' := by
  have hpl : ∀ k, (padAll widN (cols.take k)).length ≤ 6 * (300 + 16) := fun k => by
    have h1 := padAll_len widN (cols.take k) 300 16 (fun c hc => hcl c (List.mem_of_mem_take hc)) (by decide)
    have h2 : (cols.take k).length ≤ 6 := by rw [List.length_take]; omega
    exact Nat.le_trans h1 (Nat.mul_le_mul_right _ h2)
  obtain ⟨vo, hvo⟩ : ∃ vo, vo = v := ⟨_, rfl⟩
  rw [← hvo] at hO
  go_enter Tryz.func36, Tryz.ntmps36
  go_wp2
  go_loopw [0, 5, 6, 9] (fun v _ _ i wr => ∃ k : Nat, k ≤ 6 ∧ i = .int .i64 k ∧ Dat wr v (bs ++ padAll widN (cols.take k)) ∧ Grw w vo.ownBlock wr v ∧ Cols wr cb cols) (fun _ _ _ i _ => 6 - (intOf i).toNat)
  case atStart => exact ⟨0, by omega, rfl, by simpa [padAll, widN] using hv, by rw [hvo]; exact Grw.refl _ _, hC⟩
  case round =>
    obtain ⟨k, hk, rfl, hD, hG1, hC1⟩ := hrel
    by_cases hkl : k < 6
    · have k1 : (k : Int) < 6 := by omega
      obtain ⟨c, hc⟩ : ∃ c, cols[k]? = some c := ⟨_, List.getElem?_eq_getElem (by omega)⟩
      obtain ⟨n, hn⟩ : ∃ n, widN[k]? = some n := ⟨_, List.getElem?_eq_getElem (by show k < 6; exact hkl)⟩
      have hni : wids.getD k 0 = (n : Nat) := by
        rcases (by omega : k = 0 ∨ k = 1 ∨ k = 2 ∨ k = 3 ∨ k = 4 ∨ k = 5) with rfl | rfl | rfl | rfl | rfl | rfl <;> (cases hn; rfl)
      have hn16 : n ≤ 16 := by
        have : ∀ x ∈ widN, x ≤ 16 := by decide
        exact this n (List.mem_of_getElem? hn)
      have hcc := hcl c (List.mem_of_getElem? hc)
      have hpk := hpl k
      have hst := padAll_take widN cols k n c hn hc
      have d0 := hC1.cell k c hc
      have hlb : (bs ++ padAll widN (cols.take k)).length ≤ 900002000 := by rw [List.length_append]; omega
      obtain ⟨X, hX⟩ : ∃ X, X = bs ++ padAll widN (cols.take k) := ⟨_, rfl⟩
      have hst2 : bs ++ padAll widN (cols.take (k + 1)) = X ++ (c ++ List.replicate (n - c.length) 32) := by rw [hst, hX, List.append_assoc]; rfl
      rw [← hX] at hD hlb
      have HS := hide' hst2
      have HC := hide' hcl
      have HP := hide' hpl
      clear hst hst2 hX hpk hcl hpl
      go_wp2_with (at_builtin; refine wpList_append_str _ rfl _ _ rfl rfl rfl hD (by rw [mk_size]; omega) ?_)
      intro v2 w2 hD2 hg2 ho2
      have hG2 := hG1.step hg2 ho2
      have hC2 := hC1.grown hD hg2
      rw [tl_mk] at hD2
      have hE2 := hE.keep (hG2.below hN hO) (by omega)
      have e0 := hE2.cell k hkl
      rw [hni] at e0
      have HE := hide' hE
      clear hE hD hg2 ho2 hC1 d0
      go_wp2
      by_cases hcn : c.length ≤ n
      · obtain ⟨m, hm⟩ : ∃ m : Nat, m = n - c.length := ⟨_, rfl⟩
        have hmi : (n : Int) - (c.length : Int) = m := by omega
        have hmn : m ≤ 16 := by omega
        rw [← hm] at HS
        rw [hmi]
        clear hm hmi
        obtain ⟨wo, rfl⟩ : ∃ wo, wo = w2 := ⟨_, rfl⟩
        go_loopw [0, 23] (fun v i wi => ∃ j : Nat, j ≤ m ∧ i = .int .i64 j ∧ Dat wi v (X ++ c ++ List.replicate j 32) ∧ Grw w vo.ownBlock wi v ∧ Cols wi cb cols) (fun _ i _ => m - (intOf i).toNat)
        case atStart => exact ⟨0, by omega, rfl, by simpa using hD2, hG2, hC2⟩
        case round =>
          obtain ⟨j, hj, rfl, hDj, hGj, hCj⟩ := hrel
          by_cases hjm : j < m
          · have j1 : (j : Int) < m := by omega
            have hb4 : Below wr.heap.size wr (wr.alloc (.cells #[.int .u8 32] 5)) := (Below.refl _ _).alloc (Nat.le_refl _) _
            have hD4 := hDj.kept fun g hg => hb4.block g (hDj.lt g hg)
            have hr4 := byte_rds wr 32
            have hG4 := hGj.alloc (.cells #[.int .u8 32] 5)
            have hC4 := hCj.below hb4
            have hln : (X ++ c ++ List.replicate j 32).length + 1 ≤ 1099511627776 := by simp only [List.length_append, List.length_replicate]; omega
            have hstj : X ++ c ++ List.replicate j 32 ++ [32] = X ++ c ++ List.replicate (j + 1) 32 := by rw [List.append_assoc, ← List.replicate_succ']
            have HJ := hide' hstj
            clear hstj
            go_wp2_with (at_builtin; refine wpList_append_dat _ rfl _ _ rfl rfl rfl hD4 hr4 hln ?_)
            intro v5 w5 hD5 _ hg5 ho5
            have hG5 := hG4.step hg5 (by first | exact ho5 | (rw [size_alloc']; exact ho5))
            have hC5 := hC4.grown hD4 hg5
            have hD5 : Dat w5 v5 (X ++ c ++ List.replicate (j + 1) 32) := by rw [← HJ.out]; simpa only [List.append_assoc] using hD5
            go_wp2
            exact ⟨⟨j + 1, by omega, by simp, hD5, hG5, hC5⟩, by simp [intOf]; omega⟩
          · obtain rfl : j = m := by omega
            have j1 : ¬ (j : Int) < j := by omega
            have hDz : Dat wr u0 (bs ++ padAll widN (cols.take (k + 1))) := by rw [HS.out, ← List.append_assoc]; exact hDj
            go_wp2
            exact ⟨⟨k + 1, by omega, by simp, hDz, hGj, hCj⟩, by simp [intOf]; omega⟩
      · obtain ⟨z, hz⟩ : ∃ z : Int, z = (n : Int) - (c.length : Int) := ⟨_, rfl⟩
        have hz0 : ¬ (0 : Int) < z := by omega
        have hm0 : n - c.length = 0 := by omega
        rw [hm0] at HS
        rw [← hz]
        clear hz hm0
        have hDz : Dat w2 v2 (bs ++ padAll widN (cols.take (k + 1))) := by rw [HS.out]; simpa using hD2
        obtain ⟨wo, hwo⟩ : ∃ wo, wo = w2 := ⟨_, rfl⟩
        go_loopw [0, 23] (fun v i wi => i = .int .i64 0 ∧ v = v2 ∧ wi = w2) (fun _ _ _ => 0)
        case atStart => exact ⟨rfl, rfl, rfl⟩
        case round =>
          obtain ⟨rfl, rfl, rfl⟩ := hrel
          go_wp2
          exact ⟨⟨k + 1, by omega, by simp, hDz, hG2, hC2⟩, by simp [intOf]; omega⟩
    · obtain rfl : k = 6 := by omega
      rw [List.take_of_length_le (by omega)] at hD
      have hpl6 := hpl 6
      rw [List.take_of_length_le (by omega)] at hpl6
      go_wp2_with (at_builtin; refine wpList_append_str _ rfl _ _ rfl rfl rfl hD (by rw [List.length_append]; show _ + 2 ≤ _; omega) ?_)
      intro v2 w2 hD2 hg2 ho2
      have hG2 := hG1.step hg2 ho2
      have hD2 : Dat w2 v2 (bs ++ (padAll widN cols ++ [96, 10])) := hD2
      obtain ⟨a2, n2, c2, hv2⟩ := hD2.form
      subst hv2
      go_wp2
      go_ret
      rw [hvo] at hG2
      exact ⟨_, rfl, hD2, hG2⟩
end Go.Proofs.YtcijjigafcpcpaaGreatDoor
