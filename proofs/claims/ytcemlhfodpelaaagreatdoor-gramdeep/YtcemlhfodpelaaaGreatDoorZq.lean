/- The contracts of the lexer's tell, passComment, passSingle and pass. The contracts of the lexer's passComment, passSingle and pass. -/
import Derived.Test.YtcemlhfodpelaaaGreatDoorSm
import Derived.Test.YtcemlhfodpelaaaGreatDoorShelf
namespace Go.Proofs.YtcemlhfodpelaaaGreatDoor
open Go.RowKit Go.Shelf
attribute [local go_sem] run_store_nilFunc run_store_func

theorem clone_any (s : ByteArray) (w : World) (hlim : s.size ≤ 281474976710656) :
    Calls Tryz.prog 89 #[.string s] w fun e w' => e = .returned (.string s) ∧ Below w.heap.size w w' := by
  go_enter Tryz.func89, Tryz.ntmps89
  go_wp2_with (go_at_call 111; refine (Tryz.stringslite_Clone s _ hlim).mono ?_; rintro e w' ⟨rfl, hb⟩)
  go_ret
  exact ⟨rfl, hb⟩
theorem quiet_of_drew {P : Program} {f : FuncId} {args : Array Value} {w : World} {n : Nat} {v : Value}
    (q : Calls P f args (w.drewN n) fun e w' => e = .returned v ∧ ∃ m, w' = (w.drewN n).drewN m) : Calls P f args (w.drewN n) fun e w' => e = .returned v ∧ ∃ m, w' = w.drewN m :=
  q.mono fun _ _ h => ⟨h.1, by obtain ⟨m, hm⟩ := h.2; exact ⟨n + m, by rw [hm, drewn_two]⟩⟩
structure TeC (A : Nat) (T : ByteArray) (fr p : Nat) (w : World) : Prop where
  c0 : w.cell? ⟨A, 0, none⟩ = some (.string T)
  c1 : w.cell? ⟨A, 1, none⟩ = some (.int .i64 fr)
  c2 : w.cell? ⟨A, 2, none⟩ = some (.int .i64 p)
set_option maxHeartbeats 1000000 in
theorem tell_room (w : World) (A B : Nat) (T : ByteArray) (l : LS) (tv ov : Value) (k : Nat) (h : LexAt w A B T l tv ov) (hf : l.tk.length < 5000) :
    Calls Tryz.prog 68 #[.pointer (some ⟨A, 0, none⟩), .int .i64 k] w fun e w' => e = .returned (.tuple #[]) ∧ Below B w w' ∧ ∃ tv', LexAt w' A B T (tellS (tl T) k l) tv' ov := by
  have hC : TeC A T l.fr l.p w.drew := ⟨h.c0, h.c1, h.c2⟩
  have hsz := h.size
  have hpn := h.pn
  have hfr := h.frp
  have e : T.extract l.fr l.p = mk (piece (tl T) l) := ext_mk _ _ _
  have hlt := h.lt
  have H := hide' (h.drew 1)
  have HL := hide' h.low
  have hz : (T.extract l.fr l.p).size ≤ 281474976710656 := by rw [ByteArray.size_extract]; omega
  have hz' : (mk (piece (tl T) l)).size ≤ 281474976710656 := by rw [← e]; exact hz
  clear h
  go_enter Tryz.func68, Tryz.ntmps68
  go_wp2_with fail
  refine wp_region_classX [19] (C := TeC A T l.fr l.p) (by kernel_rfl) ?_
  (refine wpAnyX_take (i := 0) (v := ?_) hC rfl (by kernel_rfl) (by kernel_rfl) (by kernel_rfl) (by kernel_rfl) (fun _ _ _ h => h) (Or.inl ⟨by kernel_rfl, ?_⟩) ?_; rotate_left; (intro w hc; have k0 := hc.c0; have k1 := hc.c1; have k2 := hc.c2; clear hc; go_simp; try with_reducible rfl))
  (refine wpAnyX_take (i := 1) (v := ?_) hC rfl (by kernel_rfl) (by kernel_rfl) (by kernel_rfl) (by kernel_rfl) (fun _ _ _ h => h) (Or.inl ⟨by kernel_rfl, ?_⟩) ?_; rotate_left; (intro w hc; have k0 := hc.c0; have k1 := hc.c1; have k2 := hc.c2; clear hc; go_simp; try with_reducible rfl))
  (refine wpAnyX_take (i := 2) (v := ?_) hC rfl (by kernel_rfl) (by kernel_rfl) (by kernel_rfl) (by kernel_rfl) (fun _ _ _ h => h) (Or.inl ⟨by kernel_rfl, ?_⟩) ?_; rotate_left; (intro w hc; have k0 := hc.c0; have k1 := hc.c1; have k2 := hc.c2; clear hc; go_simp; try with_reducible rfl))
  (refine wpAnyX_take (i := 3) (v := ?_) hC rfl (by kernel_rfl) (by kernel_rfl) (by kernel_rfl) (by kernel_rfl) (fun _ _ _ h => h) (Or.inl ⟨by kernel_rfl, ?_⟩) ?_; rotate_left; (intro w hc; have k0 := hc.c0; have k1 := hc.c1; have k2 := hc.c2; clear hc; go_simp; try with_reducible rfl))
  (refine wpAnyX_take (i := 4) (v := ?_) hC rfl (by kernel_rfl) (by kernel_rfl) (by kernel_rfl) (by kernel_rfl) (fun _ _ _ h => h) (Or.inl ⟨by kernel_rfl, ?_⟩) ?_; rotate_left; (intro w hc; have k0 := hc.c0; have k1 := hc.c1; have k2 := hc.c2; clear hc; go_simp; try with_reducible rfl))
  (refine wpAnyX_take (i := 5) (v := ?_) hC rfl (by kernel_rfl) (by kernel_rfl) (by kernel_rfl) (by kernel_rfl) (fun _ _ _ h => h) (Or.inl ⟨by kernel_rfl, ?_⟩) ?_; rotate_left; (intro w hc; have k0 := hc.c0; have k1 := hc.c1; have k2 := hc.c2; clear hc; go_simp; try with_reducible rfl))
  (refine wpAnyX_take (i := 6) (v := ?_) hC rfl (by kernel_rfl) (by kernel_rfl) (by kernel_rfl) (by kernel_rfl) (fun _ _ _ h => h) (Or.inl ⟨by kernel_rfl, ?_⟩) ?_; rotate_left; (intro w hc; have k0 := hc.c0; have k1 := hc.c1; have k2 := hc.c2; clear hc; go_simp; try with_reducible rfl))
  (refine wpAnyX_take (i := 7) (v := ?_) hC rfl (by kernel_rfl) (by kernel_rfl) (by kernel_rfl) (by kernel_rfl) (fun _ _ _ h => h) (Or.inl ⟨by kernel_rfl, ?_⟩) ?_; rotate_left; (intro w hc; have k0 := hc.c0; have k1 := hc.c1; have k2 := hc.c2; clear hc; go_simp; try with_reducible rfl))
  (refine wpAnyX_take (i := 8) (v := ?_) hC rfl (by kernel_rfl) (by kernel_rfl) (by kernel_rfl) (by kernel_rfl) (fun _ _ _ h => h) (Or.inl ⟨by kernel_rfl, ?_⟩) ?_; rotate_left; (intro w hc; have k0 := hc.c0; have k1 := hc.c1; have k2 := hc.c2; clear hc; go_simp; try with_reducible rfl))
  (refine wpAnyX_take (i := 9) (v := ?_) hC rfl (by kernel_rfl) (by kernel_rfl) (by kernel_rfl) (by kernel_rfl) (fun _ _ _ h => h) (Or.inl ⟨by kernel_rfl, ?_⟩) ?_; rotate_left; (intro w hc; have k0 := hc.c0; have k1 := hc.c1; have k2 := hc.c2; clear hc; go_simp; try with_reducible rfl))
  (refine wpAnyX_take (i := 10) (v := ?_) hC rfl (by kernel_rfl) (by kernel_rfl) (by kernel_rfl) (by kernel_rfl) (fun _ _ _ h => h) (Or.inl ⟨by kernel_rfl, ?_⟩) ?_; rotate_left; (intro w hc; have k0 := hc.c0; have k1 := hc.c1; have k2 := hc.c2; clear hc; go_simp; try with_reducible rfl))
  (refine wpAnyX_take (i := 11) (v := ?_) hC rfl (by kernel_rfl) (by kernel_rfl) (by kernel_rfl) (by kernel_rfl) (fun _ _ _ h => h) (Or.inl ⟨by kernel_rfl, ?_⟩) ?_; rotate_left; (intro w hc; have k0 := hc.c0; have k1 := hc.c1; have k2 := hc.c2; clear hc; go_simp; try with_reducible rfl))
  (refine wpAnyX_take (i := 12) (v := ?_) hC rfl (by kernel_rfl) (by kernel_rfl) (by kernel_rfl) (by kernel_rfl) (fun _ _ _ h => h) (Or.inl ⟨by kernel_rfl, ?_⟩) ?_; rotate_left; (intro w hc; have k0 := hc.c0; have k1 := hc.c1; have k2 := hc.c2; clear hc; go_simp; try with_reducible rfl))
  (refine wpAnyX_take (i := 13) (v := ?_) hC rfl (by kernel_rfl) (by kernel_rfl) (by kernel_rfl) (by kernel_rfl) (fun _ _ _ h => h) (Or.inl ⟨by kernel_rfl, ?_⟩) ?_; rotate_left; (intro w hc; have k0 := hc.c0; have k1 := hc.c1; have k2 := hc.c2; clear hc; go_simp; try with_reducible rfl))
  (refine wpAnyX_take (i := 14) (v := ?_) hC rfl (by kernel_rfl) (by kernel_rfl) (by kernel_rfl) (by kernel_rfl) (fun _ _ _ h => h) (Or.inl ⟨by kernel_rfl, ?_⟩) ?_; rotate_left; (intro w hc; have k0 := hc.c0; have k1 := hc.c1; have k2 := hc.c2; clear hc; go_simp; try with_reducible rfl))
  (refine wpAnyX_take (i := 15) (v := ?_) hC rfl (by kernel_rfl) (by kernel_rfl) (by kernel_rfl) (by kernel_rfl) (fun _ _ _ h => h) (Or.inl ⟨by kernel_rfl, ?_⟩) ?_; rotate_left; (intro w hc; have k0 := hc.c0; have k1 := hc.c1; have k2 := hc.c2; clear hc; go_simp; try with_reducible rfl))
  (refine wpAnyX_take (i := 16) (v := ?_) hC rfl (by kernel_rfl) (by kernel_rfl) (by kernel_rfl) (by kernel_rfl) (fun _ _ _ h => h) (Or.inl ⟨by kernel_rfl, ?_⟩) ?_; rotate_left; (intro w hc; have k0 := hc.c0; have k1 := hc.c1; have k2 := hc.c2; clear hc; go_simp; try with_reducible rfl))
  refine wpAnyX_one (i := 17) (by kernel_rfl) (wpOp_wanted rfl (by rfl) ?_)
  go_simp
  refine (clone_any _ _ hz').mono ?_
  rintro r w4 ⟨rfl, hb4⟩
  dsimp only
  have h4 := H.out.below hb4
  have hC4 : TeC A T l.fr l.p w4 := ⟨h4.c0, h4.c1, h4.c2⟩
  have hB4 := (below_drewn (w := w) (B := B) 1).trans (hb4.mono (by have := HL.out; simp; omega))
  refine ⟨hC4, ?_⟩
  refine wpAnyX_one (i := 18) (by kernel_rfl) (wpOp_wanted rfl (by rfl) ?_)
  go_simp
  refine wpAnyX_one (i := 19) (by kernel_rfl) (wpOp_wanted rfl (by rfl) ?_)
  go_simp
  refine (tpush_room w4 A B T l tv ov k (piece (tl T) l) h4 hf).mono ?_
  rintro r w5 ⟨rfl, hb5, tv', h5⟩
  dsimp only
  refine wpAnyX_done (by kernel_rfl) ?_ _
  go_wp2
  go_end0
  exact ⟨rfl, hB4.trans hb5, tv', h5⟩
set_option maxHeartbeats 1000000 in
theorem tell_full (w : World) (A B : Nat) (T : ByteArray) (l : LS) (tv ov : Value) (k : Nat) (h : LexAt w A B T l tv ov) (hf : l.tk.length = 5000) :
    Calls Tryz.prog 68 #[.pointer (some ⟨A, 0, none⟩), .int .i64 k] w fun e w' => e = panicsN 2 ∧ Below B w w' := by
  have hC : TeC A T l.fr l.p w.drew := ⟨h.c0, h.c1, h.c2⟩
  have hsz := h.size
  have hpn := h.pn
  have hfr := h.frp
  have e : T.extract l.fr l.p = mk (piece (tl T) l) := ext_mk _ _ _
  have hlt := h.lt
  have H := hide' (h.drew 1)
  have HL := hide' h.low
  have hz : (T.extract l.fr l.p).size ≤ 281474976710656 := by rw [ByteArray.size_extract]; omega
  have hz' : (mk (piece (tl T) l)).size ≤ 281474976710656 := by rw [← e]; exact hz
  clear h
  go_enter Tryz.func68, Tryz.ntmps68
  go_wp2_with fail
  refine wp_region_classX [19] (C := TeC A T l.fr l.p) (by kernel_rfl) ?_
  (refine wpAnyX_take (i := 0) (v := ?_) hC rfl (by kernel_rfl) (by kernel_rfl) (by kernel_rfl) (by kernel_rfl) (fun _ _ _ h => h) (Or.inl ⟨by kernel_rfl, ?_⟩) ?_; rotate_left; (intro w hc; have k0 := hc.c0; have k1 := hc.c1; have k2 := hc.c2; clear hc; go_simp; try with_reducible rfl))
  (refine wpAnyX_take (i := 1) (v := ?_) hC rfl (by kernel_rfl) (by kernel_rfl) (by kernel_rfl) (by kernel_rfl) (fun _ _ _ h => h) (Or.inl ⟨by kernel_rfl, ?_⟩) ?_; rotate_left; (intro w hc; have k0 := hc.c0; have k1 := hc.c1; have k2 := hc.c2; clear hc; go_simp; try with_reducible rfl))
  (refine wpAnyX_take (i := 2) (v := ?_) hC rfl (by kernel_rfl) (by kernel_rfl) (by kernel_rfl) (by kernel_rfl) (fun _ _ _ h => h) (Or.inl ⟨by kernel_rfl, ?_⟩) ?_; rotate_left; (intro w hc; have k0 := hc.c0; have k1 := hc.c1; have k2 := hc.c2; clear hc; go_simp; try with_reducible rfl))
  (refine wpAnyX_take (i := 3) (v := ?_) hC rfl (by kernel_rfl) (by kernel_rfl) (by kernel_rfl) (by kernel_rfl) (fun _ _ _ h => h) (Or.inl ⟨by kernel_rfl, ?_⟩) ?_; rotate_left; (intro w hc; have k0 := hc.c0; have k1 := hc.c1; have k2 := hc.c2; clear hc; go_simp; try with_reducible rfl))
  (refine wpAnyX_take (i := 4) (v := ?_) hC rfl (by kernel_rfl) (by kernel_rfl) (by kernel_rfl) (by kernel_rfl) (fun _ _ _ h => h) (Or.inl ⟨by kernel_rfl, ?_⟩) ?_; rotate_left; (intro w hc; have k0 := hc.c0; have k1 := hc.c1; have k2 := hc.c2; clear hc; go_simp; try with_reducible rfl))
  (refine wpAnyX_take (i := 5) (v := ?_) hC rfl (by kernel_rfl) (by kernel_rfl) (by kernel_rfl) (by kernel_rfl) (fun _ _ _ h => h) (Or.inl ⟨by kernel_rfl, ?_⟩) ?_; rotate_left; (intro w hc; have k0 := hc.c0; have k1 := hc.c1; have k2 := hc.c2; clear hc; go_simp; try with_reducible rfl))
  (refine wpAnyX_take (i := 6) (v := ?_) hC rfl (by kernel_rfl) (by kernel_rfl) (by kernel_rfl) (by kernel_rfl) (fun _ _ _ h => h) (Or.inl ⟨by kernel_rfl, ?_⟩) ?_; rotate_left; (intro w hc; have k0 := hc.c0; have k1 := hc.c1; have k2 := hc.c2; clear hc; go_simp; try with_reducible rfl))
  (refine wpAnyX_take (i := 7) (v := ?_) hC rfl (by kernel_rfl) (by kernel_rfl) (by kernel_rfl) (by kernel_rfl) (fun _ _ _ h => h) (Or.inl ⟨by kernel_rfl, ?_⟩) ?_; rotate_left; (intro w hc; have k0 := hc.c0; have k1 := hc.c1; have k2 := hc.c2; clear hc; go_simp; try with_reducible rfl))
  (refine wpAnyX_take (i := 8) (v := ?_) hC rfl (by kernel_rfl) (by kernel_rfl) (by kernel_rfl) (by kernel_rfl) (fun _ _ _ h => h) (Or.inl ⟨by kernel_rfl, ?_⟩) ?_; rotate_left; (intro w hc; have k0 := hc.c0; have k1 := hc.c1; have k2 := hc.c2; clear hc; go_simp; try with_reducible rfl))
  (refine wpAnyX_take (i := 9) (v := ?_) hC rfl (by kernel_rfl) (by kernel_rfl) (by kernel_rfl) (by kernel_rfl) (fun _ _ _ h => h) (Or.inl ⟨by kernel_rfl, ?_⟩) ?_; rotate_left; (intro w hc; have k0 := hc.c0; have k1 := hc.c1; have k2 := hc.c2; clear hc; go_simp; try with_reducible rfl))
  (refine wpAnyX_take (i := 10) (v := ?_) hC rfl (by kernel_rfl) (by kernel_rfl) (by kernel_rfl) (by kernel_rfl) (fun _ _ _ h => h) (Or.inl ⟨by kernel_rfl, ?_⟩) ?_; rotate_left; (intro w hc; have k0 := hc.c0; have k1 := hc.c1; have k2 := hc.c2; clear hc; go_simp; try with_reducible rfl))
  (refine wpAnyX_take (i := 11) (v := ?_) hC rfl (by kernel_rfl) (by kernel_rfl) (by kernel_rfl) (by kernel_rfl) (fun _ _ _ h => h) (Or.inl ⟨by kernel_rfl, ?_⟩) ?_; rotate_left; (intro w hc; have k0 := hc.c0; have k1 := hc.c1; have k2 := hc.c2; clear hc; go_simp; try with_reducible rfl))
  (refine wpAnyX_take (i := 12) (v := ?_) hC rfl (by kernel_rfl) (by kernel_rfl) (by kernel_rfl) (by kernel_rfl) (fun _ _ _ h => h) (Or.inl ⟨by kernel_rfl, ?_⟩) ?_; rotate_left; (intro w hc; have k0 := hc.c0; have k1 := hc.c1; have k2 := hc.c2; clear hc; go_simp; try with_reducible rfl))
  (refine wpAnyX_take (i := 13) (v := ?_) hC rfl (by kernel_rfl) (by kernel_rfl) (by kernel_rfl) (by kernel_rfl) (fun _ _ _ h => h) (Or.inl ⟨by kernel_rfl, ?_⟩) ?_; rotate_left; (intro w hc; have k0 := hc.c0; have k1 := hc.c1; have k2 := hc.c2; clear hc; go_simp; try with_reducible rfl))
  (refine wpAnyX_take (i := 14) (v := ?_) hC rfl (by kernel_rfl) (by kernel_rfl) (by kernel_rfl) (by kernel_rfl) (fun _ _ _ h => h) (Or.inl ⟨by kernel_rfl, ?_⟩) ?_; rotate_left; (intro w hc; have k0 := hc.c0; have k1 := hc.c1; have k2 := hc.c2; clear hc; go_simp; try with_reducible rfl))
  (refine wpAnyX_take (i := 15) (v := ?_) hC rfl (by kernel_rfl) (by kernel_rfl) (by kernel_rfl) (by kernel_rfl) (fun _ _ _ h => h) (Or.inl ⟨by kernel_rfl, ?_⟩) ?_; rotate_left; (intro w hc; have k0 := hc.c0; have k1 := hc.c1; have k2 := hc.c2; clear hc; go_simp; try with_reducible rfl))
  (refine wpAnyX_take (i := 16) (v := ?_) hC rfl (by kernel_rfl) (by kernel_rfl) (by kernel_rfl) (by kernel_rfl) (fun _ _ _ h => h) (Or.inl ⟨by kernel_rfl, ?_⟩) ?_; rotate_left; (intro w hc; have k0 := hc.c0; have k1 := hc.c1; have k2 := hc.c2; clear hc; go_simp; try with_reducible rfl))
  refine wpAnyX_one (i := 17) (by kernel_rfl) (wpOp_wanted rfl (by rfl) ?_)
  go_simp
  refine (clone_any _ _ hz').mono ?_
  rintro r w4 ⟨rfl, hb4⟩
  dsimp only
  have h4 := H.out.below hb4
  have hC4 : TeC A T l.fr l.p w4 := ⟨h4.c0, h4.c1, h4.c2⟩
  have hB4 := (below_drewn (w := w) (B := B) 1).trans (hb4.mono (by have := HL.out; simp; omega))
  refine ⟨hC4, ?_⟩
  refine wpAnyX_one (i := 18) (by kernel_rfl) (wpOp_wanted rfl (by rfl) ?_)
  go_simp
  refine wpAnyX_one (i := 19) (by kernel_rfl) (wpOp_wanted rfl (by rfl) ?_)
  go_simp
  refine (tpush_full w4 A B T l tv ov k (mk (piece (tl T) l)) h4 hf).mono ?_
  rintro r w5 ⟨rfl, hb5⟩
  exact ⟨rfl, rfl, hB4.trans (hb5.mono (by have := HL.out; have := h4.lt; omega))⟩
theorem cut_str (s : ByteArray) (c : UInt8) (w : World) (hs : s.size ≤ 100000) (hm : ∃ m, w.cell? ⟨1, 0, none⟩ = some (.int .i64 m)) :
    Calls Tryz.prog 90 #[.string s, .string ⟨#[c]⟩] w fun e w' => e = .returned (.tuple #[.string (mk (Lib.cut (tl s) [c]).1), .string (mk (Lib.cut (tl s) [c]).2.1), .bool (Lib.cut (tl s) [c]).2.2]) ∧ ∃ n, w' = w.drewN n := by
  obtain ⟨m, hm⟩ := hm
  exact Tryz.strings_Cut s ⟨#[c]⟩ m w (by omega) hm
theorem cutN_le (T : Bs) (c : UInt8) : cutN T c ≤ T.length := by
  unfold cutN Lib.cut
  split
  · simp only [List.length_take]; omega
  · exact Nat.le_refl _
theorem cutN_lt (T : Bs) (c : UInt8) (h : cutB T c = true) : cutN T c + 1 ≤ T.length := by
  unfold cutB Lib.cut at h
  split at h
  · rename_i h0
    have := Lib.index_room T [c] h0
    unfold cutN Lib.cut
    rw [if_pos h0]
    simp only [List.length_take]
    simp only [List.length_cons, List.length_nil] at this
    omega
  · cases h
end Go.Proofs.YtcemlhfodpelaaaGreatDoor
namespace Go.Proofs.YtcemlhfodpelaaaGreatDoor
open Go.RowKit Go.Shelf
attribute [local go_sem] run_store_nilFunc run_store_func

set_option maxHeartbeats 1000000 in
theorem comment_any (w : World) (A B : Nat) (T : ByteArray) (l : LS) (tv ov : Value) (h : LexAt w A B T l tv ov) :
    Calls Tryz.prog 69 #[.pointer (some ⟨A, 0, none⟩)] w fun e w' => e = .returned (.tuple #[]) ∧ Below B w w' ∧ LexAt w' A B T (atP l (l.p + cutN ((tl T).drop l.p) 10)) tv ov := by
  have k0 := h.c0
  have k2 := h.c2
  have f2 := h.fz 2
  have hsz := h.size
  have hpn := h.pn
  have hfr := h.frp
  have e : T.extract l.p T.size = mk ((tl T).drop l.p) := ext_drop _ _
  have hD : ((tl T).drop l.p).length = T.size - l.p := by rw [List.length_drop, tl_len]
  generalize (tl T).drop l.p = D at e hD ⊢
  have hcl := cutN_le D 10
  obtain ⟨q0, hq⟩ : ∃ q, q = l.p + cutN D 10 := ⟨_, rfl⟩
  rw [← hq]
  have q := fun w hm => cut_str (mk D) 10 w (by rw [mk_size]; omega) hm
  rw [tl_mk D] at q
  obtain ⟨a, ha⟩ : ∃ a, a = mk (Lib.cut D [10]).1 := ⟨_, rfl⟩
  have hasz : a.size = cutN D 10 := by rw [ha, mk_size]; rfl
  rw [← ha] at q
  generalize mk (Lib.cut D [10]).2.1 = b at q
  generalize (Lib.cut D [10]).2.2 = o at q
  have hw : IntKind.i64.wrap ((l.p : Int) + (a.size : Int)) = (q0 : Int) := by rw [IntKind.wrap_i64]; omega
  have hg := h.glo.2
  have HE := hide' fun n => (h.drew n).setP q0 (by omega) (by omega)
  have HB := hide' fun n => (below_drewn (B := B) n).trans (below_set (h.drew n) 2 (.int .i64 q0))
  clear h ha hq hcl hasz hD
  go_enter Tryz.func69, Tryz.ntmps69
  go_wp2_with fail
  go_quiet ((go_at_call 90; exact quiet_of_drew (q _ hg)))
  go_wp2_with fail
  go_end0
  exact ⟨rfl, HB.out _, HE.out _⟩
theorem single_part (T : ByteArray) (p : Nat) (hp : p < T.size) (hs : T.size ≤ 100000) : ∃ (D : Bs) (a b : ByteArray), (tl T).drop (p + 1) = D ∧ T.extract (p + 1) T.size = mk D ∧ D.length = T.size - (p + 1) ∧ a.size = cutN D 39 ∧ a.size + 1 ≤ T.size ∧ (cutB D 39 = true → p + (a.size + 2) ≤ T.size) ∧
    ∀ w, (∃ m, w.cell? ⟨1, 0, none⟩ = some (.int .i64 m)) → Calls Tryz.prog 90 #[.string (mk D), .string ⟨#[39]⟩] w fun e w' => e = .returned (.tuple #[.string a, .string b, .bool (cutB D 39)]) ∧ ∃ n, w' = w.drewN n := by
  have hD : ((tl T).drop (p + 1)).length = T.size - (p + 1) := by rw [List.length_drop, tl_len]
  refine ⟨(tl T).drop (p + 1), mk (Lib.cut ((tl T).drop (p + 1)) [39]).1, mk (Lib.cut ((tl T).drop (p + 1)) [39]).2.1, rfl, ext_drop _ _, hD, by rw [mk_size]; rfl, ?_, fun h => ?_, fun w hm => ?_⟩
  · rw [mk_size]
    have := cutN_le ((tl T).drop (p + 1)) 39
    unfold cutN at this
    omega
  · rw [mk_size]
    have := cutN_lt ((tl T).drop (p + 1)) 39 h
    unfold cutN at this
    omega
  · have q := cut_str (mk ((tl T).drop (p + 1))) 39 w (by rw [mk_size]; omega) hm
    rw [tl_mk ((tl T).drop (p + 1))] at q
    exact q
set_option maxHeartbeats 1000000 in
theorem single_yes (w : World) (A B : Nat) (T : ByteArray) (l : LS) (tv ov : Value) (h : LexAt w A B T l tv ov) (hp : l.p < T.size) (ho : cutB ((tl T).drop (l.p + 1)) 39 = true) :
    Calls Tryz.prog 114 #[.pointer (some ⟨A, 0, none⟩)] w fun e w' => e = .returned (.tuple #[]) ∧ Below B w w' ∧ LexAt w' A B T (atP l (l.p + (cutN ((tl T).drop (l.p + 1)) 39 + 2))) tv ov := by
  have k0 := h.c0
  have k2 := h.c2
  have f2 := h.fz 2
  have hsz := h.size
  have hfr := h.frp
  obtain ⟨D, a, b, hD, e, hDl, ha, hal, hat, q⟩ := single_part T l.p hp hsz
  rw [hD] at ho ⊢
  rw [ho] at q
  have hat := hat ho
  rw [← ha]
  obtain ⟨q0, hq⟩ : ∃ q, q = l.p + (a.size + 2) := ⟨_, rfl⟩
  rw [← hq]
  obtain ⟨p1, hp1⟩ : ∃ q, q = l.p + 1 := ⟨_, rfl⟩
  rw [← hp1] at e hDl
  have hw1 : IntKind.i64.wrap ((l.p : Int) + 1) = (p1 : Int) := by rw [IntKind.wrap_i64]; omega
  have hw2 : IntKind.i64.wrap ((a.size : Int) + 2) = (a.size : Int) + 2 := by rw [IntKind.wrap_i64]; omega
  have hw : IntKind.i64.wrap ((l.p : Int) + ((a.size : Int) + 2)) = (q0 : Int) := by rw [IntKind.wrap_i64]; omega
  have hpl : p1 ≤ T.size := by omega
  have hg := h.glo.2
  have HE := hide' fun n => (h.drew n).setP q0 (by omega) (by omega)
  have HB := hide' fun n => (below_drewn (B := B) n).trans (below_set (h.drew n) 2 (.int .i64 q0))
  clear h ha hq hp1 hD hDl ho
  go_enter Tryz.func114, Tryz.ntmps114
  go_wp2_with fail
  go_quiet ((go_at_call 90; exact quiet_of_drew (q _ hg)))
  go_wp2_with fail
  go_end0
  exact ⟨rfl, HB.out _, HE.out _⟩
set_option maxHeartbeats 1000000 in
theorem single_no (w : World) (A B : Nat) (T : ByteArray) (l : LS) (tv ov : Value) (h : LexAt w A B T l tv ov) (hp : l.p < T.size) (ho : cutB ((tl T).drop (l.p + 1)) 39 = false) :
    Calls Tryz.prog 114 #[.pointer (some ⟨A, 0, none⟩)] w fun e w' => e = panicsN 30 ∧ Below w.heap.size w w' := by
  have k0 := h.c0
  have k2 := h.c2
  have f2 := h.fz 2
  have hsz := h.size
  obtain ⟨D, a, b, hD, e, hDl, ha, hal, hat, q⟩ := single_part T l.p hp hsz
  rw [hD] at ho
  rw [ho] at q
  obtain ⟨p1, hp1⟩ : ∃ q, q = l.p + 1 := ⟨_, rfl⟩
  rw [← hp1] at e hDl
  have hw1 : IntKind.i64.wrap ((l.p : Int) + 1) = (p1 : Int) := by rw [IntKind.wrap_i64]; omega
  have hpl : p1 ≤ T.size := by omega
  have hg := h.glo.2
  clear h ha hp1 hD hDl ho hat
  go_enter Tryz.func114, Tryz.ntmps114
  go_wp2_with fail
  go_quiet ((go_at_call 90; exact quiet_of_drew (q _ hg)))
  go_wp2_with fail
  exact ⟨rfl, rfl, below_drewn _⟩
end Go.Proofs.YtcemlhfodpelaaaGreatDoor
