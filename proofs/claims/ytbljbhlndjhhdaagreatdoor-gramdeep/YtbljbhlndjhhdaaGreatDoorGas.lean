/- Assignments; simple commands. -/
import Derived.Test.YtbljbhlndjhhdaaGreatDoorGn
namespace Go.Proofs.YtbljbhlndjhhdaaGreatDoor
open Go.RowKit

theorem cut_len (t : Bs) (c : UInt8) : (Lib.cut t [c]).1.length ≤ t.length := by
  unfold Lib.cut
  split
  · simp; omega
  · exact Nat.le_refl _
set_option maxHeartbeats 2000000 in
theorem assign_any (t : Bs) (w : World) (hs : t.length ≤ 100000) (hm : ∃ m, w.cell? ⟨1, 0, none⟩ = some (.int .i64 m)) : Calls Tryz.prog 145 #[.string (mk t)] w fun e w' => e = .returned (.bool (assignB t)) ∧ ∃ n, w' = w.drewN n := by
  have q := cut_str (mk t) 61 w (by rw [mk_size]; exact hs) hm
  have hl := cut_len t 61
  have q2 := fun w => name_any (mk (Lib.cut t [61]).1) w (by rw [mk_size]; omega)
  rw [tl_mk t] at q
  simp only [tl_mk (Lib.cut t [61]).1] at q2
  obtain ⟨ob, hob⟩ : ∃ ob, (Lib.cut t [61]).2.2 = ob := ⟨_, rfl⟩
  obtain ⟨nb, hnb⟩ : ∃ nb, nameB (Lib.cut t [61]).1 = nb := ⟨_, rfl⟩
  have HA := hide' (show assignB t = (ob && nb) by unfold assignB; rw [hob, hnb])
  simp only [hnb] at q2
  rw [hob] at q
  clear hm hl hob hnb
  generalize mk (Lib.cut t [61]).1 = N1 at *
  generalize mk (Lib.cut t [61]).2.1 = N2 at *
  go_enter Tryz.func145, Tryz.ntmps145
  go_wp2_with fail
  refine q.mono ?_
  rintro e w1 ⟨rfl, n, hw1⟩
  clear q
  dsimp only
  cases ob with
  | true =>
    go_wp2_with fail
    refine (q2 _).mono ?_
    rintro e w2 ⟨rfl, rfl⟩
    dsimp only
    go_wp2
    go_ret
    rw [HA.out]
    exact ⟨rfl, n, rfl⟩
  | false =>
    go_wp2
    go_ret
    rw [HA.out]
    exact ⟨rfl, n, rfl⟩
theorem RowS.keptO {w w' : World} {S : Nat → Prop} {T sz n : Nat} {v : Value} {xs : List Value} (h : RowS w S T sz v n xs) (hk : ∀ g, v.ownBlock = some g → S g → g < w.heap.size → w'.heap[g]? = w.heap[g]?) : RowS w' S T sz v n xs := by
  obtain ⟨h1, h2⟩ := h
  refine ⟨h1, ?_⟩
  rcases h2 with h2 | ⟨g, cap, cur, rfl, h3, h4, h5⟩
  · exact .inl h2
  · exact .inr ⟨g, cap, cur, rfl, h3, (hk g rfl h3 (lt_of_block h4)).trans h4, h5⟩
theorem row_ne {w : World} {S S' : Nat → Prop} {T sz n T' sz' n' : Nat} {v v' : Value} {xs xs' : List Value} (h : RowS w S T sz v n xs) (h' : RowS w S' T' sz' v' n' xs') (hT : T ≠ T') : ∀ b, v.ownBlock = some b → v'.ownBlock ≠ some b := fun b e e' => by
  obtain ⟨_, cur, h1⟩ := h.blk b e
  obtain ⟨_, cur', h2⟩ := h'.blk b e'
  rw [h1] at h2
  injection h2 with h2
  injection h2 with _ h2
  exact hT h2
/-- a simple command that is being built -/
structure SmAt (x : Cx) (w wr : World) (s : PS) (bx : Nat) (aa : Option Addr) (an ac : Nat) (wa : Option Addr) (wn wc : Nat) (ra : Option Addr) (rn rc : Nat) (ag ws : List Bs) (rs : List (Bs × Bs)) : Prop where
  box : BoxAt x w wr s bx #[.int .i64 1, .bool false, .slice aa an ac, .slice wa wn wc, .slice ra rn rc, .slice none 0 0, .slice none 0 0]
  rowA : RowS wr (KS w bx) 9 1 (.slice aa an ac) an (ag.map fun x => .string (mk x))
  rowW : RowS wr (KS w bx) 9 1 (.slice wa wn wc) wn (ws.map fun x => .string (mk x))
  rowR : RowS wr (KS w bx) 65 2 (.slice ra rn rc) rn (rs.flatMap redC)
  la : an = ag.length
  lw : wn = ws.length
  lr : rn = rs.length
  apart : ∀ b, (Value.slice aa an ac).ownBlock = some b → (Value.slice wa wn wc).ownBlock ≠ some b
theorem SmAt.drewN {x : Cx} {w wr : World} {s : PS} {bx : Nat} {aa : Option Addr} {an ac : Nat} {wa : Option Addr} {wn wc : Nat} {ra : Option Addr} {rn rc : Nat} {ag ws : List Bs} {rs : List (Bs × Bs)} (h : SmAt x w wr s bx aa an ac wa wn wc ra rn rc ag ws rs) (m : Nat) : SmAt x w (wr.drewN m) s bx aa an ac wa wn wc ra rn rc ag ws rs :=
  ⟨h.box.below (below_drewn m), h.rowA.kept fun _ _ _ => rfl, h.rowW.kept fun _ _ _ => rfl, h.rowR.kept fun _ _ _ => rfl, h.la, h.lw, h.lr, h.apart⟩
theorem SmAt.cmd {x : Cx} {w wr : World} {s : PS} {bx : Nat} {aa : Option Addr} {an ac : Nat} {wa : Option Addr} {wn wc : Nat} {ra : Option Addr} {rn rc : Nat} {ag ws : List Bs} {rs : List (Bs × Bs)} (h : SmAt x w wr s bx aa an ac wa wn wc ra rn rc ag ws rs) : CdAt wr (fun g => w.heap.size + 1 ≤ g) [.int .i64 1, .bool false, .slice aa an ac, .slice wa wn wc, .slice ra rn rc, .slice none 0 0, .slice none 0 0] (.mk 1 false ag ws rs [] []) := by
  have h1 := h.rowA.mono (S' := fun g => w.heap.size + 1 ≤ g) fun g hg _ => hg.1
  have h2 := h.rowW.mono (S' := fun g => w.heap.size + 1 ≤ g) fun g hg _ => hg.1
  have h3 := h.rowR.mono (S' := fun g => w.heap.size + 1 ≤ g) fun g hg _ => hg.1
  have e1 := h.la
  have e2 := h.lw
  have e3 := h.lr
  subst e1 e2 e3
  exact .intro 1 false ag ws rs [] [] _ _ _ _ _ [] [] h1 h2 h3 (RowS.nil _ _ _ _) rfl (fun i cs c h => by simp at h) (RowS.nil _ _ _ _) rfl (fun i a b h => by simp at h) (fun i a b h => by simp at h)
theorem redir_len {s s' : PS} {r : Bs × Bs} (h : redirP s = .ok r s') (h0 : s.ts ≠ []) : s'.ts.length < s.ts.length := by
  unfold redirP wordP at h
  split at h
  · cases h
    show s.ts.tail.tail.length < _
    cases hs : s.ts with
    | nil => exact absurd hs h0
    | cons a r => simp; omega
  · cases h
theorem nx_len {s : PS} (h0 : s.ts ≠ []) : s.nx.ts.length < s.ts.length := by
  show s.ts.tail.length < _
  cases hs : s.ts with
  | nil => exact absurd hs h0
  | cons a r => simp
theorem psp_len {w : World} {x : Cx} {p : Nat} {s : PS} (h : PsP w x p s) : p + s.ts.length = x.tk.length := by
  have h1 := h.lt
  have h2 := congrArg List.length h.ts
  rw [List.length_drop] at h2
  omega
end Go.Proofs.YtbljbhlndjhhdaaGreatDoor
