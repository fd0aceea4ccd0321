/- The contracts of the lexer's tell, passComment, passSingle and pass. -/
import Derived.Test.YtbljbhlndjhhdaaGreatDoorSm
import Derived.Test.YtbljbhlndjhhdaaGreatDoorShelf
namespace Go.Proofs.YtbljbhlndjhhdaaGreatDoor
open Go.RowKit Go.Shelf
attribute [local go_sem] run_store_nilFunc run_store_func

theorem clone_any (s : ByteArray) (w : World) (hlim : s.size ≤ 281474976710656) :
    Calls Tryz.prog 89 #[.string s] w fun e w' => e = .returned (.string s) ∧ Below w.heap.size w w' := by
  go_enter Tryz.func89, Tryz.ntmps89
  go_wp2_with (go_at_call 110; refine (Tryz.stringslite_Clone s _ hlim).mono ?_; rintro e w' ⟨rfl, hb⟩)
  go_ret
  exact ⟨rfl, hb⟩
theorem quiet_of_drew {P : Program} {f : FuncId} {args : Array Value} {w : World} {n : Nat} {v : Value}
    (q : Calls P f args (w.drewN n) fun e w' => e = .returned v ∧ ∃ m, w' = (w.drewN n).drewN m) : Calls P f args (w.drewN n) fun e w' => e = .returned v ∧ ∃ m, w' = w.drewN m :=
  q.mono fun _ _ h => ⟨h.1, by obtain ⟨m, hm⟩ := h.2; exact ⟨n + m, by rw [hm, drewn_two]⟩⟩
structure TeC (A : Nat) (T : ByteArray) (fr p : Nat) (w : World) : Prop where
  c0 : w.cell? ⟨A, 0, none⟩ = some (.string T)
  c1 : w.cell? ⟨A, 1, none⟩ = some (.int .i64 fr)
  c2 : w.cell? ⟨A, 2, none⟩ = some (.int .i64 p)
set_option maxHeartbeats 1000000 in
theorem tell_room (w : World) (A B : Nat) (T : ByteArray) (l : LS) (tv ov : Value) (k : Nat) (h : LexAt w A B T l tv ov) (hf : l.tk.length < 5000) :
    Calls Tryz.prog 68 #[.pointer (some ⟨A, 0, none⟩), .int .i64 k] w fun e w' => e = .returned (.tuple #[]) ∧ Below B w w' ∧ ∃ tv', LexAt w' A B T (tellS (tl T) k l) tv' ov := by
  have hC : TeC A T l.fr l.p w.drew := ⟨h.c0, h.c1, h.c2⟩
  have hsz := h.size
  have hpn := h.pn
  have hfr := h.frp
  have e : T.extract l.fr l.p = mk (piece (tl T) l) := ext_mk _ _ _
  have hlt := h.lt
  have H := hide' (h.drew 1)
  have HL := hide' h.low
  have hz : (T.extract l.fr l.p).size ≤ 281474976710656 := by rw [ByteArray.size_extract]; omega
  have hz' : (mk (piece (tl T) l)).size ≤ 281474976710656 := by rw [← e]; exact hz
  clear h
  go_enter Tryz.func68, Tryz.ntmps68
  go_wp2_with fail
  refine wp_region_classX [19] (C := TeC A T l.fr l.p) (by kernel_rfl) ?_
  (refine wpAnyX_take (i := 0) (v := ?_) hC rfl (by kernel_rfl) (by kernel_rfl) (by kernel_rfl) (by kernel_rfl) (fun _ _ _ h => h) (Or.inl ⟨by kernel_rfl, ?_⟩) ?_; rotate_left; (intro w hc; have k0 := hc.c0; have k1 := hc.c1; have k2 := hc.c2; clear hc; go_simp; try with_reducible rfl))
  (refine wpAnyX_take (i := 1) (v := ?_) hC rfl (by kernel_rfl) (by kernel_rfl) (by kernel_rfl) (by kernel_rfl) (fun _ _ _ h => h) (Or.inl ⟨by kernel_rfl, ?_⟩) ?_; rotate_left; (intro w hc; have k0 := hc.c0; have k1 := hc.c1; have k2 := hc.c2; clear hc; go_simp; try with_reducible rfl))
  (refine wpAnyX_take (i := 2) (v := ?_) hC rfl (by kernel_rfl) (by kernel_rfl) (by kernel_rfl) (by kernel_rfl) (fun _ _ _ h => h) (Or.inl ⟨by kernel_rfl, ?_⟩) ?_; rotate_left; (intro w hc; have k0 := hc.c0; have k1 := hc.c1; have k2 := hc.c2; clear hc; go_simp; try with_reducible rfl))
  (refine wpAnyX_take (i := 3) (v := ?_) hC rfl (by kernel_rfl) (by kernel_rfl) (by kernel_rfl) (by kernel_rfl) (fun _ _ _ h => h) (Or.inl ⟨by kernel_rfl, ?_⟩) ?_; rotate_left; (intro w hc; have k0 := hc.c0; have k1 := hc.c1; have k2 := hc.c2; clear hc; go_simp; try with_reducible rfl))
  (refine wpAnyX_take (i := 4) (v := ?_) hC rfl (by kernel_rfl) (by kernel_rfl) (by kernel_rfl) (by kernel_rfl) (fun _ _ _ h => h) (Or.inl ⟨by kernel_rfl, ?_⟩) ?_; rotate_left; (intro w hc; have k0 := hc.c0; have k1 := hc.c1; have k2 := hc.c2; clear hc; go_simp; try with_reducible rfl))
  (refine wpAnyX_take (i := 5) (v := ?_) hC rfl (by kernel_rfl) (by kernel_rfl) (by kernel_rfl) (by kernel_rfl) (fun _ _ _ h => h) (Or.inl ⟨by kernel_rfl, ?_⟩) ?_; rotate_left; (intro w hc; have k0 := hc.c0; have k1 := hc.c1; have k2 := hc.c2; clear hc; go_simp; try with_reducible rfl))
  (refine wpAnyX_take (i := 6) (v := ?_) hC rfl (by kernel_rfl) (by kernel_rfl) (by kernel_rfl) (by kernel_rfl) (fun _ _ _ h => h) (Or.inl ⟨by kernel_rfl, ?_⟩) ?_; rotate_left; (intro w hc; have k0 := hc.c0; have k1 := hc.c1; have k2 := hc.c2; clear hc; go_simp; try with_reducible rfl))
  (refine wpAnyX_take (i := 7) (v := ?_) hC rfl (by kernel_rfl) (by kernel_rfl) (by kernel_rfl) (by kernel_rfl) (fun _ _ _ h => h) (Or.inl ⟨by kernel_rfl, ?_⟩) ?_; rotate_left; (intro w hc; have k0 := hc.c0; have k1 := hc.c1; have k2 := hc.c2; clear hc; go_simp; try with_reducible rfl))
  (refine wpAnyX_take (i := 8) (v := ?_) hC rfl (by kernel_rfl) (by kernel_rfl) (by kernel_rfl) (by kernel_rfl) (fun _ _ _ h => h) (Or.inl ⟨by kernel_rfl, ?_⟩) ?_; rotate_left; (intro w hc; have k0 := hc.c0; have k1 := hc.c1; have k2 := hc.c2; clear hc; go_simp; try with_reducible rfl))
  (refine wpAnyX_take (i := 9) (v := ?_) hC rfl (by kernel_rfl) (by kernel_rfl) (by kernel_rfl) (by kernel_rfl) (fun _ _ _ h => h) (Or.inl ⟨by kernel_rfl, ?_⟩) ?_; rotate_left; (intro w hc; have k0 := hc.c0; have k1 := hc.c1; have k2 := hc.c2; clear hc; go_simp; try with_reducible rfl))
  (refine wpAnyX_take (i := 10) (v := ?_) hC rfl (by kernel_rfl) (by kernel_rfl) (by kernel_rfl) (by kernel_rfl) (fun _ _ _ h => h) (Or.inl ⟨by kernel_rfl, ?_⟩) ?_; rotate_left; (intro w hc; have k0 := hc.c0; have k1 := hc.c1; have k2 := hc.c2; clear hc; go_simp; try with_reducible rfl))
  (refine wpAnyX_take (i := 11) (v := ?_) hC rfl (by kernel_rfl) (by kernel_rfl) (by kernel_rfl) (by kernel_rfl) (fun _ _ _ h => h) (Or.inl ⟨by kernel_rfl, ?_⟩) ?_; rotate_left; (intro w hc; have k0 := hc.c0; have k1 := hc.c1; have k2 := hc.c2; clear hc; go_simp; try with_reducible rfl))
  (refine wpAnyX_take (i := 12) (v := ?_) hC rfl (by kernel_rfl) (by kernel_rfl) (by kernel_rfl) (by kernel_rfl) (fun _ _ _ h => h) (Or.inl ⟨by kernel_rfl, ?_⟩) ?_; rotate_left; (intro w hc; have k0 := hc.c0; have k1 := hc.c1; have k2 := hc.c2; clear hc; go_simp; try with_reducible rfl))
  (refine wpAnyX_take (i := 13) (v := ?_) hC rfl (by kernel_rfl) (by kernel_rfl) (by kernel_rfl) (by kernel_rfl) (fun _ _ _ h => h) (Or.inl ⟨by kernel_rfl, ?_⟩) ?_; rotate_left; (intro w hc; have k0 := hc.c0; have k1 := hc.c1; have k2 := hc.c2; clear hc; go_simp; try with_reducible rfl))
  (refine wpAnyX_take (i := 14) (v := ?_) hC rfl (by kernel_rfl) (by kernel_rfl) (by kernel_rfl) (by kernel_rfl) (fun _ _ _ h => h) (Or.inl ⟨by kernel_rfl, ?_⟩) ?_; rotate_left; (intro w hc; have k0 := hc.c0; have k1 := hc.c1; have k2 := hc.c2; clear hc; go_simp; try with_reducible rfl))
  (refine wpAnyX_take (i := 15) (v := ?_) hC rfl (by kernel_rfl) (by kernel_rfl) (by kernel_rfl) (by kernel_rfl) (fun _ _ _ h => h) (Or.inl ⟨by kernel_rfl, ?_⟩) ?_; rotate_left; (intro w hc; have k0 := hc.c0; have k1 := hc.c1; have k2 := hc.c2; clear hc; go_simp; try with_reducible rfl))
  (refine wpAnyX_take (i := 16) (v := ?_) hC rfl (by kernel_rfl) (by kernel_rfl) (by kernel_rfl) (by kernel_rfl) (fun _ _ _ h => h) (Or.inl ⟨by kernel_rfl, ?_⟩) ?_; rotate_left; (intro w hc; have k0 := hc.c0; have k1 := hc.c1; have k2 := hc.c2; clear hc; go_simp; try with_reducible rfl))
  refine wpAnyX_one (i := 17) (by kernel_rfl) (wpOp_wanted rfl (by rfl) ?_)
  go_simp
  refine (clone_any _ _ hz').mono ?_
  rintro r w4 ⟨rfl, hb4⟩
  dsimp only
  have h4 := H.out.below hb4
  have hC4 : TeC A T l.fr l.p w4 := ⟨h4.c0, h4.c1, h4.c2⟩
  have hB4 := (below_drewn (w := w) (B := B) 1).trans (hb4.mono (by have := HL.out; simp; omega))
  refine ⟨hC4, ?_⟩
  refine wpAnyX_one (i := 18) (by kernel_rfl) (wpOp_wanted rfl (by rfl) ?_)
  go_simp
  refine wpAnyX_one (i := 19) (by kernel_rfl) (wpOp_wanted rfl (by rfl) ?_)
  go_simp
  refine (tpush_room w4 A B T l tv ov k (piece (tl T) l) h4 hf).mono ?_
  rintro r w5 ⟨rfl, hb5, tv', h5⟩
  dsimp only
  refine wpAnyX_done (by kernel_rfl) ?_ _
  go_wp2
  go_end0
  exact ⟨rfl, hB4.trans hb5, tv', h5⟩
set_option maxHeartbeats 1000000 in
theorem tell_full (w : World) (A B : Nat) (T : ByteArray) (l : LS) (tv ov : Value) (k : Nat) (h : LexAt w A B T l tv ov) (hf : l.tk.length = 5000) :
    Calls Tryz.prog 68 #[.pointer (some ⟨A, 0, none⟩), .int .i64 k] w fun e w' => e = panicsN 2 ∧ Below B w w' := by
  have hC : TeC A T l.fr l.p w.drew := ⟨h.c0, h.c1, h.c2⟩
  have hsz := h.size
  have hpn := h.pn
  have hfr := h.frp
  have e : T.extract l.fr l.p = mk (piece (tl T) l) := ext_mk _ _ _
  have hlt := h.lt
  have H := hide' (h.drew 1)
  have HL := hide' h.low
  have hz : (T.extract l.fr l.p).size ≤ 281474976710656 := by rw [ByteArray.size_extract]; omega
  have hz' : (mk (piece (tl T) l)).size ≤ 281474976710656 := by rw [← e]; exact hz
  clear h
  go_enter Tryz.func68, Tryz.ntmps68
  go_wp2_with fail
  refine wp_region_classX [19] (C := TeC A T l.fr l.p) (by kernel_rfl) ?_
  (refine wpAnyX_take (i := 0) (v := ?_) hC rfl (by kernel_rfl) (by kernel_rfl) (by kernel_rfl) (by kernel_rfl) (fun _ _ _ h => h) (Or.inl ⟨by kernel_rfl, ?_⟩) ?_; rotate_left; (intro w hc; have k0 := hc.c0; have k1 := hc.c1; have k2 := hc.c2; clear hc; go_simp; try with_reducible rfl))
  (refine wpAnyX_take (i := 1) (v := ?_) hC rfl (by kernel_rfl) (by kernel_rfl) (by kernel_rfl) (by kernel_rfl) (fun _ _ _ h => h) (Or.inl ⟨by kernel_rfl, ?_⟩) ?_; rotate_left; (intro w hc; have k0 := hc.c0; have k1 := hc.c1; have k2 := hc.c2; clear hc; go_simp; try with_reducible rfl))
  (refine wpAnyX_take (i := 2) (v := ?_) hC rfl (by kernel_rfl) (by kernel_rfl) (by kernel_rfl) (by kernel_rfl) (fun _ _ _ h => h) (Or.inl ⟨by kernel_rfl, ?_⟩) ?_; rotate_left; (intro w hc; have k0 := hc.c0; have k1 := hc.c1; have k2 := hc.c2; clear hc; go_simp; try with_reducible rfl))
  (refine wpAnyX_take (i := 3) (v := ?_) hC rfl (by kernel_rfl) (by kernel_rfl) (by kernel_rfl) (by kernel_rfl) (fun _ _ _ h => h) (Or.inl ⟨by kernel_rfl, ?_⟩) ?_; rotate_left; (intro w hc; have k0 := hc.c0; have k1 := hc.c1; have k2 := hc.c2; clear hc; go_simp; try with_reducible rfl))
  (refine wpAnyX_take (i := 4) (v := ?_) hC rfl (by kernel_rfl) (by kernel_rfl) (by kernel_rfl) (by kernel_rfl) (fun _ _ _ h => h) (Or.inl ⟨by kernel_rfl, ?_⟩) ?_; rotate_left; (intro w hc; have k0 := hc.c0; have k1 := hc.c1; have k2 := hc.c2; clear hc; go_simp; try with_reducible rfl))
  (refine wpAnyX_take (i := 5) (v := ?_) hC rfl (by kernel_rfl) (by kernel_rfl) (by kernel_rfl) (by kernel_rfl) (fun _ _ _ h => h) (Or.inl ⟨by kernel_rfl, ?_⟩) ?_; rotate_left; (intro w hc; have k0 := hc.c0; have k1 := hc.c1; have k2 := hc.c2; clear hc; go_simp; try with_reducible rfl))
  (refine wpAnyX_take (i := 6) (v := ?_) hC rfl (by kernel_rfl) (by kernel_rfl) (by kernel_rfl) (by kernel_rfl) (fun _ _ _ h => h) (Or.inl ⟨by kernel_rfl, ?_⟩) ?_; rotate_left; (intro w hc; have k0 := hc.c0; have k1 := hc.c1; have k2 := hc.c2; clear hc; go_simp; try with_reducible rfl))
  (refine wpAnyX_take (i := 7) (v := ?_) hC rfl (by kernel_rfl) (by kernel_rfl) (by kernel_rfl) (by kernel_rfl) (fun _ _ _ h => h) (Or.inl ⟨by kernel_rfl, ?_⟩) ?_; rotate_left; (intro w hc; have k0 := hc.c0; have k1 := hc.c1; have k2 := hc.c2; clear hc; go_simp; try with_reducible rfl))
  (refine wpAnyX_take (i := 8) (v := ?_) hC rfl (by kernel_rfl) (by kernel_rfl) (by kernel_rfl) (by kernel_rfl) (fun _ _ _ h => h) (Or.inl ⟨by kernel_rfl, ?_⟩) ?_; rotate_left; (intro w hc; have k0 := hc.c0; have k1 := hc.c1; have k2 := hc.c2; clear hc; go_simp; try with_reducible rfl))
  (refine wpAnyX_take (i := 9) (v := ?_) hC rfl (by kernel_rfl) (by kernel_rfl) (by kernel_rfl) (by kernel_rfl) (fun _ _ _ h => h) (Or.inl ⟨by kernel_rfl, ?_⟩) ?_; rotate_left; (intro w hc; have k0 := hc.c0; have k1 := hc.c1; have k2 := hc.c2; clear hc; go_simp; try with_reducible rfl))
  (refine wpAnyX_take (i := 10) (v := ?_) hC rfl (by kernel_rfl) (by kernel_rfl) (by kernel_rfl) (by kernel_rfl) (fun _ _ _ h => h) (Or.inl ⟨by kernel_rfl, ?_⟩) ?_; rotate_left; (intro w hc; have k0 := hc.c0; have k1 := hc.c1; have k2 := hc.c2; clear hc; go_simp; try with_reducible rfl))
  (refine wpAnyX_take (i := 11) (v := ?_) hC rfl (by kernel_rfl) (by kernel_rfl) (by kernel_rfl) (by kernel_rfl) (fun _ _ _ h => h) (Or.inl ⟨by kernel_rfl, ?_⟩) ?_; rotate_left; (intro w hc; have k0 := hc.c0; have k1 := hc.c1; have k2 := hc.c2; clear hc; go_simp; try with_reducible rfl))
  (refine wpAnyX_take (i := 12) (v := ?_) hC rfl (by kernel_rfl) (by kernel_rfl) (by kernel_rfl) (by kernel_rfl) (fun _ _ _ h => h) (Or.inl ⟨by kernel_rfl, ?_⟩) ?_; rotate_left; (intro w hc; have k0 := hc.c0; have k1 := hc.c1; have k2 := hc.c2; clear hc; go_simp; try with_reducible rfl))
  (refine wpAnyX_take (i := 13) (v := ?_) hC rfl (by kernel_rfl) (by kernel_rfl) (by kernel_rfl) (by kernel_rfl) (fun _ _ _ h => h) (Or.inl ⟨by kernel_rfl, ?_⟩) ?_; rotate_left; (intro w hc; have k0 := hc.c0; have k1 := hc.c1; have k2 := hc.c2; clear hc; go_simp; try with_reducible rfl))
  (refine wpAnyX_take (i := 14) (v := ?_) hC rfl (by kernel_rfl) (by kernel_rfl) (by kernel_rfl) (by kernel_rfl) (fun _ _ _ h => h) (Or.inl ⟨by kernel_rfl, ?_⟩) ?_; rotate_left; (intro w hc; have k0 := hc.c0; have k1 := hc.c1; have k2 := hc.c2; clear hc; go_simp; try with_reducible rfl))
  (refine wpAnyX_take (i := 15) (v := ?_) hC rfl (by kernel_rfl) (by kernel_rfl) (by kernel_rfl) (by kernel_rfl) (fun _ _ _ h => h) (Or.inl ⟨by kernel_rfl, ?_⟩) ?_; rotate_left; (intro w hc; have k0 := hc.c0; have k1 := hc.c1; have k2 := hc.c2; clear hc; go_simp; try with_reducible rfl))
  (refine wpAnyX_take (i := 16) (v := ?_) hC rfl (by kernel_rfl) (by kernel_rfl) (by kernel_rfl) (by kernel_rfl) (fun _ _ _ h => h) (Or.inl ⟨by kernel_rfl, ?_⟩) ?_; rotate_left; (intro w hc; have k0 := hc.c0; have k1 := hc.c1; have k2 := hc.c2; clear hc; go_simp; try with_reducible rfl))
  refine wpAnyX_one (i := 17) (by kernel_rfl) (wpOp_wanted rfl (by rfl) ?_)
  go_simp
  refine (clone_any _ _ hz').mono ?_
  rintro r w4 ⟨rfl, hb4⟩
  dsimp only
  have h4 := H.out.below hb4
  have hC4 : TeC A T l.fr l.p w4 := ⟨h4.c0, h4.c1, h4.c2⟩
  have hB4 := (below_drewn (w := w) (B := B) 1).trans (hb4.mono (by have := HL.out; simp; omega))
  refine ⟨hC4, ?_⟩
  refine wpAnyX_one (i := 18) (by kernel_rfl) (wpOp_wanted rfl (by rfl) ?_)
  go_simp
  refine wpAnyX_one (i := 19) (by kernel_rfl) (wpOp_wanted rfl (by rfl) ?_)
  go_simp
  refine (tpush_full w4 A B T l tv ov k (mk (piece (tl T) l)) h4 hf).mono ?_
  rintro r w5 ⟨rfl, hb5⟩
  exact ⟨rfl, rfl, hB4.trans (hb5.mono (by have := HL.out; have := h4.lt; omega))⟩
theorem cut_str (s : ByteArray) (c : UInt8) (w : World) (hs : s.size ≤ 100000) (hm : ∃ m, w.cell? ⟨1, 0, none⟩ = some (.int .i64 m)) :
    Calls Tryz.prog 90 #[.string s, .string ⟨#[c]⟩] w fun e w' => e = .returned (.tuple #[.string (mk (Lib.cut (tl s) [c]).1), .string (mk (Lib.cut (tl s) [c]).2.1), .bool (Lib.cut (tl s) [c]).2.2]) ∧ ∃ n, w' = w.drewN n := by
  obtain ⟨m, hm⟩ := hm
  exact Tryz.strings_Cut s ⟨#[c]⟩ m w (by omega) hm
theorem cutN_le (T : Bs) (c : UInt8) : cutN T c ≤ T.length := by
  unfold cutN Lib.cut
  split
  · simp only [List.length_take]; omega
  · exact Nat.le_refl _
theorem cutN_lt (T : Bs) (c : UInt8) (h : cutB T c = true) : cutN T c + 1 ≤ T.length := by
  unfold cutB Lib.cut at h
  split at h
  · rename_i h0
    have := Lib.index_room T [c] h0
    unfold cutN Lib.cut
    rw [if_pos h0]
    simp only [List.length_take]
    simp only [List.length_cons, List.length_nil] at this
    omega
  · cases h
end Go.Proofs.YtbljbhlndjhhdaaGreatDoor
