/- The contracts of the lexer's passComment, passSingle and pass. -/
import Derived.Test.YtbljbhlndjhhdaaGreatDoorPs
namespace Go.Proofs.YtbljbhlndjhhdaaGreatDoor
open Go.RowKit Go.Shelf
attribute [local go_sem] run_store_nilFunc run_store_func

set_option maxHeartbeats 1000000 in
theorem comment_any (w : World) (A B : Nat) (T : ByteArray) (l : LS) (tv ov : Value) (h : LexAt w A B T l tv ov) :
    Calls Tryz.prog 69 #[.pointer (some ⟨A, 0, none⟩)] w fun e w' => e = .returned (.tuple #[]) ∧ Below B w w' ∧ LexAt w' A B T (atP l (l.p + cutN ((tl T).drop l.p) 10)) tv ov := by
  have k0 := h.c0
  have k2 := h.c2
  have f2 := h.fz 2
  have hsz := h.size
  have hpn := h.pn
  have hfr := h.frp
  have e : T.extract l.p T.size = mk ((tl T).drop l.p) := ext_drop _ _
  have hD : ((tl T).drop l.p).length = T.size - l.p := by rw [List.length_drop, tl_len]
  generalize (tl T).drop l.p = D at e hD ⊢
  have hcl := cutN_le D 10
  obtain ⟨q0, hq⟩ : ∃ q, q = l.p + cutN D 10 := ⟨_, rfl⟩
  rw [← hq]
  have q := fun w hm => cut_str (mk D) 10 w (by rw [mk_size]; omega) hm
  rw [tl_mk D] at q
  obtain ⟨a, ha⟩ : ∃ a, a = mk (Lib.cut D [10]).1 := ⟨_, rfl⟩
  have hasz : a.size = cutN D 10 := by rw [ha, mk_size]; rfl
  rw [← ha] at q
  generalize mk (Lib.cut D [10]).2.1 = b at q
  generalize (Lib.cut D [10]).2.2 = o at q
  have hw : IntKind.i64.wrap ((l.p : Int) + (a.size : Int)) = (q0 : Int) := by rw [IntKind.wrap_i64]; omega
  have hg := h.glo.2
  have HE := hide' fun n => (h.drew n).setP q0 (by omega) (by omega)
  have HB := hide' fun n => (below_drewn (B := B) n).trans (below_set (h.drew n) 2 (.int .i64 q0))
  clear h ha hq hcl hasz hD
  go_enter Tryz.func69, Tryz.ntmps69
  go_wp2_with fail
  go_quiet ((go_at_call 90; exact quiet_of_drew (q _ hg)))
  go_wp2_with fail
  go_end0
  exact ⟨rfl, HB.out _, HE.out _⟩
theorem single_part (T : ByteArray) (p : Nat) (hp : p < T.size) (hs : T.size ≤ 100000) : ∃ (D : Bs) (a b : ByteArray), (tl T).drop (p + 1) = D ∧ T.extract (p + 1) T.size = mk D ∧ D.length = T.size - (p + 1) ∧ a.size = cutN D 39 ∧ a.size + 1 ≤ T.size ∧ (cutB D 39 = true → p + (a.size + 2) ≤ T.size) ∧
    ∀ w, (∃ m, w.cell? ⟨1, 0, none⟩ = some (.int .i64 m)) → Calls Tryz.prog 90 #[.string (mk D), .string ⟨#[39]⟩] w fun e w' => e = .returned (.tuple #[.string a, .string b, .bool (cutB D 39)]) ∧ ∃ n, w' = w.drewN n := by
  have hD : ((tl T).drop (p + 1)).length = T.size - (p + 1) := by rw [List.length_drop, tl_len]
  refine ⟨(tl T).drop (p + 1), mk (Lib.cut ((tl T).drop (p + 1)) [39]).1, mk (Lib.cut ((tl T).drop (p + 1)) [39]).2.1, rfl, ext_drop _ _, hD, by rw [mk_size]; rfl, ?_, fun h => ?_, fun w hm => ?_⟩
  · rw [mk_size]
    have := cutN_le ((tl T).drop (p + 1)) 39
    unfold cutN at this
    omega
  · rw [mk_size]
    have := cutN_lt ((tl T).drop (p + 1)) 39 h
    unfold cutN at this
    omega
  · have q := cut_str (mk ((tl T).drop (p + 1))) 39 w (by rw [mk_size]; omega) hm
    rw [tl_mk ((tl T).drop (p + 1))] at q
    exact q
set_option maxHeartbeats 1000000 in
theorem single_yes (w : World) (A B : Nat) (T : ByteArray) (l : LS) (tv ov : Value) (h : LexAt w A B T l tv ov) (hp : l.p < T.size) (ho : cutB ((tl T).drop (l.p + 1)) 39 = true) :
    Calls Tryz.prog 113 #[.pointer (some ⟨A, 0, none⟩)] w fun e w' => e = .returned (.tuple #[]) ∧ Below B w w' ∧ LexAt w' A B T (atP l (l.p + (cutN ((tl T).drop (l.p + 1)) 39 + 2))) tv ov := by
  have k0 := h.c0
  have k2 := h.c2
  have f2 := h.fz 2
  have hsz := h.size
  have hfr := h.frp
  obtain ⟨D, a, b, hD, e, hDl, ha, hal, hat, q⟩ := single_part T l.p hp hsz
  rw [hD] at ho ⊢
  rw [ho] at q
  have hat := hat ho
  rw [← ha]
  obtain ⟨q0, hq⟩ : ∃ q, q = l.p + (a.size + 2) := ⟨_, rfl⟩
  rw [← hq]
  obtain ⟨p1, hp1⟩ : ∃ q, q = l.p + 1 := ⟨_, rfl⟩
  rw [← hp1] at e hDl
  have hw1 : IntKind.i64.wrap ((l.p : Int) + 1) = (p1 : Int) := by rw [IntKind.wrap_i64]; omega
  have hw2 : IntKind.i64.wrap ((a.size : Int) + 2) = (a.size : Int) + 2 := by rw [IntKind.wrap_i64]; omega
  have hw : IntKind.i64.wrap ((l.p : Int) + ((a.size : Int) + 2)) = (q0 : Int) := by rw [IntKind.wrap_i64]; omega
  have hpl : p1 ≤ T.size := by omega
  have hg := h.glo.2
  have HE := hide' fun n => (h.drew n).setP q0 (by omega) (by omega)
  have HB := hide' fun n => (below_drewn (B := B) n).trans (below_set (h.drew n) 2 (.int .i64 q0))
  clear h ha hq hp1 hD hDl ho
  go_enter Tryz.func113, Tryz.ntmps113
  go_wp2_with fail
  go_quiet ((go_at_call 90; exact quiet_of_drew (q _ hg)))
  go_wp2_with fail
  go_end0
  exact ⟨rfl, HB.out _, HE.out _⟩
set_option maxHeartbeats 1000000 in
theorem single_no (w : World) (A B : Nat) (T : ByteArray) (l : LS) (tv ov : Value) (h : LexAt w A B T l tv ov) (hp : l.p < T.size) (ho : cutB ((tl T).drop (l.p + 1)) 39 = false) :
    Calls Tryz.prog 113 #[.pointer (some ⟨A, 0, none⟩)] w fun e w' => e = panicsN 30 ∧ Below w.heap.size w w' := by
  have k0 := h.c0
  have k2 := h.c2
  have f2 := h.fz 2
  have hsz := h.size
  obtain ⟨D, a, b, hD, e, hDl, ha, hal, hat, q⟩ := single_part T l.p hp hsz
  rw [hD] at ho
  rw [ho] at q
  obtain ⟨p1, hp1⟩ : ∃ q, q = l.p + 1 := ⟨_, rfl⟩
  rw [← hp1] at e hDl
  have hw1 : IntKind.i64.wrap ((l.p : Int) + 1) = (p1 : Int) := by rw [IntKind.wrap_i64]; omega
  have hpl : p1 ≤ T.size := by omega
  have hg := h.glo.2
  clear h ha hp1 hD hDl ho hat
  go_enter Tryz.func113, Tryz.ntmps113
  go_wp2_with fail
  go_quiet ((go_at_call 90; exact quiet_of_drew (q _ hg)))
  go_wp2_with fail
  exact ⟨rfl, rfl, below_drewn _⟩
end Go.Proofs.YtbljbhlndjhhdaaGreatDoor
