/- The contract of the law TextSorts: it answers true whatever the list of texts is. -/
import Derived.Test.YtnhheljgjemfoaaDoorRefSort
import Derived.Test.YtnhheljgjemfoaaDoorAlive
namespace Go.Proofs.YtnhheljgjemfoaaDoor
open Go.RowKit Go.Shelf

theorem tl_inj (a b : ByteArray) (h : tl a = tl b) : a = b := by
  obtain ⟨⟨a⟩⟩ := a
  obtain ⟨⟨b⟩⟩ := b
  exact congrArg (fun l : List UInt8 => ByteArray.mk ⟨l⟩) h
theorem map_tl_inj : ∀ (L L' : List ByteArray), L.map tl = L'.map tl → L = L'
  | [], [], _ => rfl
  | [], _ :: _, h => by simp at h
  | _ :: _, [], h => by simp at h
  | a :: L, b :: L', h => by
    simp only [List.map_cons, List.cons.injEq] at h
    rw [tl_inj a b h.1, map_tl_inj L L' h.2]
theorem len_tot (L : List ByteArray) : L.length ≤ tot L := by
  induction L with
  | nil => exact Nat.le_refl _
  | cons x r ih => simp only [tot, List.length_cons]; omega
theorem mem_tl {y : ByteArray} {L : List ByteArray} (h : tl y ∈ L.map tl) : y ∈ L := by
  obtain ⟨z, hz, e⟩ := List.mem_map.1 h
  have := congrArg ba e
  rw [ba_tl, ba_tl] at this
  rwa [← this]
theorem size_tot (L : List ByteArray) : ∀ x ∈ L, x.size ≤ tot L := by
  induction L with
  | nil => intro x h; cases h
  | cons y r ih =>
    intro x hx
    rcases List.mem_cons.1 hx with rfl | hx
    · simp only [tot]; omega
    · have := ih x hx; simp only [tot]; omega
theorem getD_mem {L : List ByteArray} {k : Nat} (h : k < L.length) : L.getD k ⟨#[]⟩ ∈ L := by
  rw [List.getD_eq_getElem?_getD, List.getElem?_eq_getElem h]
  exact List.getElem_mem h

theorem lent_cells {W : World} {B g cap : Nat} {L : List ByteArray} (hr : W.ownsRow B 9 1 (.slice (some ⟨g, 0, none⟩) (L.length + 1) cap) (L.length + 1) (L.map Value.string ++ [.string mark])) : ∀ j, j < L.length → W.cell? ⟨g, 0 + j, none⟩ = some (.string (L.getD j ⟨#[]⟩)) := by
  intro j hj
  have := hr.cells (g := g) rfl j (.string (L.getD j ⟨#[]⟩)) (by
    rw [List.getElem?_append_left (by simpa using hj), List.getElem?_map, List.getElem?_eq_getElem hj, List.getD_eq_getElem?_getD, List.getElem?_eq_getElem hj]; rfl)
  have e : (⟨g, 0, none⟩ : Addr).add j = ⟨g, 0 + j, none⟩ := by unfold Addr.add; split <;> simp_all
  rw [e] at this
  exact this
theorem strs_at {W : World} {a : Option Addr} {n c : Nat} {L : List ByteArray} (h : Strs W (.slice a n c) L) : ∀ j, j < L.length → ∃ b off, a = some ⟨b, off, none⟩ ∧ W.cell? ⟨b, off + j, none⟩ = some (.string (L.getD j ⟨#[]⟩)) := by
  intro j hj
  rcases h with ⟨_, rfl⟩ | ⟨b, off, cap', e, _, _, _, h⟩
  · cases hj
  · cases e; exact ⟨b, off, rfl, h j hj⟩

set_option maxHeartbeats 400000 in
theorem sorts_big (L : List ByteArray) (v : Value) (w : World) (h : Env w) (hl : L.length ≤ 140737488355328) (hx : ∀ j, (L.getD j ⟨#[]⟩).size ≤ 140737488355328) (hv : Strz w v L) (hb : 20000 < bg 0 L) :
    Calls Tryd.prog 3 #[v] w fun e w' => e = .returned (.bool true) ∧ Below w.heap.size w w' := by
  have kB : ∀ w', Below w.heap.size w w' → Calls Tryd.prog 5 #[v] w' fun e w'' => e = .returned (.bool true) ∧ w'' = w' := fun w' hw => by
    have := big_any L v w' hl hx (hv.below hw)
    rwa [decide_eq_true hb] at this
  clear hv
  go_enter Tryd.func3, Tryd.ntmps3
  go_wp2_with fail
  refine (alive_any _ h).mono ?_
  rintro e w1 ⟨rfl, hb1⟩
  go_wp2_with fail
  refine (kB _ hb1).mono ?_
  rintro e w1' ⟨rfl, rfl⟩
  go_wp2
  go_ret
  exact ⟨rfl, hb1⟩

set_option maxRecDepth 100000 in
set_option maxHeartbeats 2000000 in
theorem sorts_main (L : List ByteArray) (v : Value) (w : World) (h : Env w) (hl : L.length ≤ 140737488355328) (hx : ∀ j, (L.getD j ⟨#[]⟩).size ≤ 140737488355328) (hv : Strz w v L) (hb : bg 0 L ≤ 20000) :
    Calls Tryd.prog 3 #[v] w fun e w' => e = .returned (.bool true) ∧ Below w.heap.size w w' := by
  have kB : ∀ w', Below w.heap.size w w' → Calls Tryd.prog 5 #[v] w' fun e w'' => e = .returned (.bool false) ∧ w'' = w' := fun w' hw => by
    have := big_any L v w' hl hx (hv.below hw)
    rwa [decide_eq_false (by omega)] at this
  have ht : tot L ≤ 20000 := by have := bg_tot L 0 hb; omega
  have hL := len_tot L
  have hsz := size_tot L
  have kS : ∀ (K : List ByteArray) (u : Value) (w' : World), K.length ≤ 20000 → (∀ x ∈ K, x ∈ L) → Strs w' u K →
      Calls Tryd.prog 7 #[u] w' fun e w'' => ∃ (v' : Value) (K' : List ByteArray), K'.map tl = so (K.map tl) ∧ e = .returned v' ∧ w''.ownsRow w'.heap.size 9 1 v' K'.length (K'.map Value.string) ∧ Below w'.heap.size w' w'' :=
    fun K u w' h1 h2 h3 => sort_strs K u w' (by omega) (fun x hx' => by have := hsz x (h2 x hx'); omega) h3
  have kF : ∀ (b off cap : Nat) (w' : World), (∀ j, j < L.length → w'.cell? ⟨b, off + j, none⟩ = some (.string (L.getD j ⟨#[]⟩))) →
      Calls Tryd.prog 7 #[.slice (some ⟨b, off, none⟩) L.length cap] w' fun e w'' => ∃ (v' : Value) (K' : List ByteArray), K'.map tl = so (L.map tl) ∧ e = .returned v' ∧ w''.ownsRow w'.heap.size 9 1 v' K'.length (K'.map Value.string) ∧ Below w'.heap.size w' w'' :=
    fun b off cap w' h3 => sort_any L b off cap w' (by omega) (fun x hx' => by have := hsz x hx'; omega) h3
  clear hsz hb hx hl
  go_enter Tryd.func3, Tryd.ntmps3
  go_wp2_with fail
  refine (alive_any _ h).mono ?_
  rintro e w1 ⟨rfl, hb1⟩
  go_wp2_with fail
  refine (kB _ hb1).mono ?_
  rintro e w1' ⟨rfl, rfl⟩
  clear kB
  have hv1 := hv.below hb1
  go_wp2_with fail
  refine (lent_any L v _ (by omega) hv1).mono ?_
  rintro e w2 ⟨full, rfl, hf2, hb2⟩
  have hB2 : Below w.heap.size w w2 := hb1.trans (hb2.mono hb1.size)
  clear hv1 hb1 hb2
  obtain ⟨gf, cf, rfl, hrf⟩ := id hf2
  have hcf := lent_cells hrf
  have kS2 := kF gf 0 cf w2 hcf
  clear hrf hcf kF
  have HF := hide' hf2
  clear hf2
  go_wp2_with fail
  refine kS2.mono ?_
  rintro e w3 ⟨v3, K, hK, rfl, hrow3, hb3⟩
  obtain ⟨a3, c3, rfl⟩ := row_form hrow3
  have HZ : Hid (∀ b off, a3 = some ⟨b, off, none⟩ → off = 0) := by
    intro b off e
    subst e
    rcases hrow3.2 with ⟨h0, _⟩ | ⟨g', cap', cur, hv, _⟩
    · cases h0
    · cases hv; rfl
  have hf3 := HF.out.below hb3
  have hB3 : Below w.heap.size w w3 := hB2.trans (hb3.mono hB2.size)
  clear kS2 HF
  have hS3 := Strs.of_row hrow3
  clear hrow3 hb3 hB2
  have hKm : ∀ x ∈ K, x ∈ L := fun x hx => mem_tl (((so_spec _).2 _).1 (by rw [← hK]; exact List.mem_map_of_mem hx))
  have hLm : ∀ x ∈ L, x ∈ K := fun x hx => mem_tl (by rw [hK]; exact ((so_spec _).2 _).2 (List.mem_map_of_mem hx))
  have hKu : Up (K.map tl) := by rw [hK]; exact (so_spec _).1
  have hKl : K.length ≤ 20000 := by
    have h1 := so_len (L.map tl)
    rw [← hK, List.length_map, List.length_map] at h1
    omega
  have HK := hide' hK
  have HKm := hide' hKm
  have HLm := hide' hLm
  have HKu := hide' hKu
  clear hK hKm hLm hKu
  have hv3 := hv.below hB3
  go_wp2_with fail
  refine (stays_any L _ _ v _ (by omega) hf3 hv3).mono ?_
  rintro e w4 ⟨rfl, hb4⟩
  have hB4 : Below w.heap.size w w4 := hB3.trans (hb4.mono hB3.size)
  have hS4 := hS3.below hb4
  clear hf3 hv3 hb4 hB3 hS3
  have hv4 := hv.below hB4
  go_wp2_with fail
  refine (rsort_any L v _ (by omega) hv4).mono ?_
  rintro e w5 ⟨v5, K5, rfl, hK5, hrow5, hb5⟩
  obtain rfl : K5 = K := map_tl_inj K5 K (hK5.trans HK.out.symm)
  have hB5 : Below w.heap.size w w5 := hB4.trans (hb5.mono hB4.size)
  have hS5 := hS4.below hb5
  have hR5 := Strs.of_row hrow5
  clear hK5 hrow5 hb5 hB4 hS4 hv4
  go_wp2_with fail
  refine (same_any _ _ v5 _ hS5 hR5).mono ?_
  rintro e w6 ⟨rfl, hb6⟩
  have hB6 : Below w.heap.size w w6 := hB5.trans (hb6.mono hB5.size)
  have hS6 := hS5.below hb6
  clear hR5 hS5 hb6 hB5
  have kS6 := kS _ _ w6 hKl HKm.out hS6
  rw [so_self _ HKu.out] at kS6
  clear kS
  go_wp2_with fail
  refine kS6.mono ?_
  rintro e w7 ⟨v7, K7, hK7, rfl, hrow7, hb7⟩
  obtain ⟨a7, c7, rfl⟩ := row_form hrow7
  obtain rfl : K7 = K5 := map_tl_inj K7 K5 hK7
  have hB7 : Below w.heap.size w w7 := hB6.trans (hb7.mono hB6.size)
  have hS7 := hS6.below hb7
  have hR7 := Strs.of_row hrow7
  clear hK7 hrow7 hb7 hB6 hS6 kS6
  go_wp2_with fail
  refine (same_any _ _ _ _ hR7 hS7).mono ?_
  rintro e w8 ⟨rfl, hb8⟩
  have hB8 : Below w.heap.size w w8 := hB7.trans (hb8.mono hB7.size)
  have hS8 := hS7.below hb8
  clear hR7 hS7 hb8 hB7
  obtain ⟨K, rfl⟩ : ∃ K, K = K7 := ⟨_, rfl⟩
  have hv8 := hv.below hB8
  have hHL : ∀ y ∈ L, ∀ W, Below w8.heap.size w8 W → Calls Tryd.prog 11 #[v, .string y] W fun e w' => e = .returned (.bool true) ∧ w' = W := fun y hy W hW => has_any L y v W (by omega) (hv8.below hW) hy
  have hHK : ∀ y ∈ K, ∀ W, Below w8.heap.size w8 W → Calls Tryd.prog 11 #[.slice a3 K.length c3, .string y] W fun e w' => e = .returned (.bool true) ∧ w' = W := fun y hy W hW => has_any K y _ W (by omega) (.inr (hS8.below hW)) hy
  have HHL := hide' hHL
  have HHK := hide' hHK
  have HC := hide' (strs_at hS8)
  have HV := hide' hv8
  have HB := hide' hB8
  have hLl : L.length ≤ 20000 := by omega
  clear hHL hHK hv8 hB8 hS8 hv h HK ht hL
  go_wp2
  go_loopw [7] (fun i wr => ∃ k : Nat, k ≤ K.length ∧ i = .int .i64 k ∧ ∃ n, wr = w8.drewN n) (fun i _ => K.length - (intOf i).toNat)
  case atStart => exact ⟨0, Nat.zero_le _, rfl, 0, rfl⟩
  case round =>
    obtain ⟨k, hk, rfl, n, rfl⟩ := hrel
    by_cases hlt : k < K.length
    · obtain ⟨g, off, rfl, c0⟩ := HC.out k hlt
      obtain rfl : off = 0 := HZ.out g off rfl
      have c1 : (w8.drewN n).cell? ⟨g, k, none⟩ = some (.string (K.getD k ⟨#[]⟩)) := by
        rwa [Nat.zero_add] at c0
      clear c0
      have kh0 := HHL.out _ (HKm.out _ (getD_mem hlt))
      have kh : ∀ n', Calls Tryd.prog 11 #[v, .string (K.getD k ⟨#[]⟩)] ((w8.drewN n).drewN n') fun e w' => e = .returned (.bool true) ∧ w' = (w8.drewN n).drewN n' := fun n' => kh0 _ (below_drewN (below_drewN (Below.refl _ _) n) n')
      clear kh0
      obtain ⟨W, hW⟩ : ∃ W, W = w8.drewN n := ⟨_, rfl⟩
      rw [← hW] at c1 kh ⊢
      have HW := hide' hW
      clear hW
      by_cases h0 : k = 0
      · subst h0
        generalize K.getD 0 ⟨#[]⟩ = y at c1 kh
        go_wp2
        go_quiet ((go_at_call 11; exact Calls.quiet_of_same (kh _)))
        go_wp2
        exact ⟨⟨1, by omega, by go_num, n + nq, by rw [HW.out, World.drewN_drewN]⟩, by simp [intOf]; omega⟩
      · have c2 : W.cell? ⟨g, k - 1, none⟩ = some (.string (K.getD (k - 1) ⟨#[]⟩)) := by
          obtain ⟨g', off', e, this⟩ := HC.out (k - 1) (by omega)
          cases e
          rw [Nat.zero_add] at this
          rw [HW.out]
          exact this
        have hd : Op.bytesLess (K.getD (k - 1) ⟨#[]⟩).toList (K.getD k ⟨#[]⟩).toList = true := by
          rw [Go.Proofs.bytesLess_eq, Lib.toList_data, Lib.toList_data]
          exact decide_eq_true (up_lt HKu.out (k - 1) k (by omega) hlt)
        have h1 : 0 < k := by omega
        have h3 : decide (0 < k) = true := decide_eq_true h1
        have h2 : ((k : Int) - 1).toNat = k - 1 := by omega
        generalize K.getD k ⟨#[]⟩ = y at c1 kh hd
        generalize K.getD (k - 1) ⟨#[]⟩ = z at c2 hd
        go_wp2
        go_quiet ((go_at_call 11; exact Calls.quiet_of_same (kh _)))
        go_wp2
        exact ⟨⟨k + 1, by omega, by go_num, n + nq, by rw [HW.out, World.drewN_drewN]⟩, by simp [intOf]; omega⟩
    · obtain ⟨a, cv, rfl⟩ : ∃ a cv, v = .slice a L.length cv := by
        rcases HV.out.form with ⟨e, a, cv, e'⟩ | ⟨_, b, off, cv, e, _, _⟩
        · exact ⟨a, cv, by rw [e]; exact e'⟩
        · exact ⟨_, _, e⟩
      have hWB : Below w8.heap.size w8 (w8.drewN n) := below_drewN (Below.refl _ _) n
      have HWB := hide' hWB
      clear hWB HC HKu HKm HHL
      go_wp2
      go_loopw [8] (fun i wr => ∃ k : Nat, k ≤ L.length ∧ i = .int .i64 k ∧ wr = w8.drewN n) (fun i _ => L.length - (intOf i).toNat)
      case atStart => exact ⟨0, Nat.zero_le _, rfl, rfl⟩
      case round =>
        obtain ⟨j, hj, rfl, rfl⟩ := hrel
        by_cases hjl : j < L.length
        · rcases HV.out.form with ⟨e, _⟩ | ⟨_, b, off, cv', e, h3, h4⟩
          · rw [e] at hjl; cases hjl
          · cases e
            have c1 : (w8.drewN n).cell? ⟨b, off + j, none⟩ = some (.string (L.getD j ⟨#[]⟩)) := h4 j hjl
            have kh := HHK.out _ (HLm.out _ (getD_mem hjl)) _ HWB.out
            generalize w8.drewN n = W at c1 kh ⊢
            generalize L.getD j ⟨#[]⟩ = y at c1 kh
            clear h3 h4 HHK HLm HWB
            go_wp2_with (go_at_call 11; refine kh.mono ?_; rintro e w' ⟨rfl, rfl⟩)
            exact ⟨⟨j + 1, by omega, by go_num, trivial⟩, by simp [intOf]; omega⟩
        · go_wp2
          go_ret
          exact ⟨rfl, HB.out.trans (HWB.out.mono HB.out.size)⟩

theorem sorts_any (L : List ByteArray) (v : Value) (w : World) (h : Env w) (hl : L.length ≤ 140737488355328) (hx : ∀ j, (L.getD j ⟨#[]⟩).size ≤ 140737488355328) (hv : Strz w v L) :
    Calls Tryd.prog 3 #[v] w fun e w' => e = .returned (.bool true) ∧ Below w.heap.size w w' := by
  by_cases hb : bg 0 L ≤ 20000
  · exact sorts_main L v w h hl hx hv hb
  · exact sorts_big L v w h hl hx hv (by omega)
end Go.Proofs.YtnhheljgjemfoaaDoor
