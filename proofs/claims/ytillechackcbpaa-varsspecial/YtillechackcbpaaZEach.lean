/- The contract of vars.ofEachWord. -/
import Derived.Test.YtillechackcbpaaZRow
namespace Go.Proofs.Ytillechackcbpaa.Sp
open Go.RowKit Go.Shelf Go.Proofs.Ytillechackcbpaa.Pa

def fv (F : Nat) : Value := .func (.func F) #[] #[]
theorem encW_map (ys : List Tx.Wd) : ys.map Tx.encW = (ys.map (·.1)).map Value.string := by rw [List.map_map]; rfl
theorem split_wds (s : ByteArray) (hs : s.size ≤ 300000) (w : World) :
    Calls Try.prog 51 #[.string s] w fun e W' => ∃ v, e = .returned v ∧ Below w.heap.size w W' ∧ ((v = .slice none 0 0 ∧ wds (tl s) = []) ∨ ∃ g cap, v = .slice (some ⟨g, 0, none⟩) (wds (tl s)).length cap ∧ w.heap.size ≤ g ∧ (wds (tl s)).length ≤ cap ∧ cap ≤ maxLen ∧ Rowz W' g (wds (tl s))) := by
  refine (Tx.split_any s (by omega) w).mono ?_
  rintro e W' ⟨v, ys, rfl, h1, h2, h3⟩
  have hL : ys.map (·.1) = wds (tl s) := wds_of (by rw [List.map_map]; exact h1)
  rw [encW_map, hL, show ys.length = (wds (tl s)).length by rw [← hL, List.length_map]] at h2
  exact ⟨v, rfl, h3, Rowz.of_row h2⟩
set_option maxRecDepth 100000 in
set_option maxHeartbeats 2000000 in
theorem each_any (F : Nat) (hcF : ∀ (x : ByteArray) (W : World), (callFunc F #[.string x]).run Try.prog W = .ok (.enter F #[.string x]) W) (f : List UInt8 → List UInt8) (hf : ∀ l, (f l).length ≤ l.length + 1) (hF : ∀ (x : ByteArray) (W : World), x.size ≤ 1000000 → Calls Try.prog F #[.string x] W fun e w' => e = .returned (.string (tx f x)) ∧ Below W.heap.size W w')
    (s : ByteArray) (hs : s.size ≤ 300000) (w : World) :
    Calls Try.prog 36 #[.string s, fv F] w fun e w' => e = .returned (.string (spW f (tl s))) ∧ Below w.heap.size w w' := by
  have q := split_wds s hs w
  have hw1 : (wds (tl s)).length ≤ 300000 := by have := len_wds (tl s); rw [tl_len] at this; omega
  have hw2 : Tx.tot ((wds (tl s)).map (tx f)) ≤ 1000000 := by
    have := tot_map f hf (wds (tl s)); have h2 := tot_wds (tl s); rw [tl_len] at h2; omega
  have HS : Hid (∀ x ∈ wds (tl s), x.size ≤ 1000000) := fun x hx => by have := size_wds (tl s) x hx; rw [tl_len] at this; omega
  have jq : Hid (∀ (v : Value) (W : World), Tx.Strz W v ((wds (tl s)).map (tx f)) → Calls Try.prog 52 #[v] W fun e w' => e = .returned (.string (spW f (tl s))) ∧ Below W.heap.size W w') := fun v W h => Tx.join_any _ v W hw2 (by rw [List.length_map]; omega) h
  have HF := hide' hF
  clear hF hw2 hf
  generalize spW f (tl s) = R at jq ⊢
  generalize wds (tl s) = L at q hw1 HS jq
  unfold fv
  go_enter Try.func36, Try.ntmps36
  go_wp2_with fail
  refine q.mono ?_
  rintro e w1 ⟨v, rfl, hb1, ⟨rfl, rfl⟩ | ⟨g, cap, rfl, hg, hl, hcap, hr⟩⟩
  · go_wp2
    go_loop [12] (fun i => i = .int .i64 0) (fun i => 0)
    case atStart => rfl
    case round =>
      subst hrel
      go_wp2_with fail
      refine (jq.out _ _ (.inr (.inl ⟨rfl, rfl⟩))).mono ?_
      rintro e w2 ⟨rfl, hb2⟩
      go_wp2
      go_ret
      exact ⟨rfl, hb1.trans (hb2.mono hb1.size)⟩
  · have HR := hide' hr
    have HB := hide' hb1
    clear hr hb1
    go_wp2
    go_loopw [12] (fun i wr => ∃ k : Nat, k ≤ L.length ∧ i = .int .i64 k ∧ Rowz wr g (tu f L k) ∧ Below w.heap.size w wr) (fun i _ => L.length - (intOf i).toNat)
    case atStart => exact ⟨0, Nat.zero_le _, rfl, HR.out, HB.out⟩
    case round =>
      obtain ⟨k, hk, rfl, hr, hB⟩ := hrel
      clear HR HB
      by_cases hlt : k < L.length
      · have c1 := hr.cell (j := k) (by rw [tu_len]; exact hlt)
        rw [tu_get f L k hlt] at c1
        have hx : (L.getD k ⟨#[]⟩).size ≤ 1000000 := HS.out _ (by rw [List.getD_eq_getElem?_getD, List.getElem?_eq_getElem hlt]; exact List.getElem_mem hlt)
        have HT := hide' (tu_set f L k hlt)
        generalize L.getD k ⟨#[]⟩ = x at c1 hx HT
        have fz := hr.fz k
        have HR := hide' hr
        have HB := hide' hB
        clear hr hB
        go_wp2_with fail
        refine (HF.out x _ hx).mono ?_
        rintro e w2 ⟨rfl, hb2⟩
        have r2 := HR.out.below hb2
        have fz2 := r2.fz k
        have HR2 := hide' r2
        have HB2 := hide' (HB.out.trans (hb2.mono HB.out.size))
        have cc := r2.cell (j := k) (by rw [tu_len]; exact hlt)
        clear hb2 r2
        go_wp2
        refine ⟨⟨k + 1, by omega, by go_num, ?_, HB2.out.setCell hg _⟩, by simp [intOf]; omega⟩
        rw [← HT.out]
        exact HR2.out.set k _
      · have hs2 := hr.strs (cap := cap) (by rw [tu_len]; exact hl) hcap
        rw [tu_len, tu_end f L k (by omega)] at hs2
        have HQ := hide' (jq.out _ _ hs2)
        clear hs2
        go_wp2_with fail
        refine HQ.out.mono ?_
        rintro e w2 ⟨rfl, hb2⟩
        go_wp2
        go_ret
        exact ⟨rfl, hB.trans (hb2.mono hB.size)⟩
theorem each_dir (s : ByteArray) (hs : s.size ≤ 300000) (w : World) :
    Calls Try.prog 36 #[.string s, .func (.func 37) #[] #[]] w fun e w' => e = .returned (.string (spW dirP (tl s))) ∧ Below w.heap.size w w' :=
  each_any 37 (fun x W => by kernel_rfl) dirP dirP_len (fun x W hx => directory_any x W hx) s hs w
theorem each_not (s : ByteArray) (hs : s.size ≤ 300000) (w : World) :
    Calls Try.prog 36 #[.string s, .func (.func 38) #[] #[]] w fun e w' => e = .returned (.string (spW notDir (tl s))) ∧ Below w.heap.size w w' :=
  each_any 38 (fun x W => by kernel_rfl) notDir (fun l => Nat.le_succ_of_le (notDir_len l)) (fun x W hx => notDir_any x W hx) s hs w
end Go.Proofs.Ytillechackcbpaa.Sp
