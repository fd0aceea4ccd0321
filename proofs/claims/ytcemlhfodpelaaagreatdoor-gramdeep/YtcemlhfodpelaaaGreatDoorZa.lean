/- Names and assignments. Assignments; simple commands. -/
import Derived.Test.YtcemlhfodpelaaaGreatDoorZx
import Derived.Test.YtcemlhfodpelaaaGreatDoorZq
namespace Go.Proofs.YtcemlhfodpelaaaGreatDoor
open Go.RowKit

/-- a byte that may stand at a name's place -/
def okAt (j : Nat) (c : UInt8) : Bool := alphaB c || (decide (j ≠ 0) && digB c)
theorem nameB_no {t : Bs} {k : Nat} {c : UInt8} (h : t[k]? = some c) (hc : okAt k c = false) : nameB t = false := by
  cases t with
  | nil => simp at h
  | cons a r =>
    cases k with
    | zero =>
      obtain rfl : a = c := by simpa using h
      have ha : alphaB a = false := by
        unfold okAt at hc
        simpa using hc
      simp [nameB, ha]
    | succ k =>
      have h' : r[k]? = some c := by simpa using h
      have hc' : (alphaB c || digB c) = false := by
        unfold okAt at hc
        simpa using hc
      have : r.all (fun c => alphaB c || digB c) = false := by
        rw [List.all_eq_false]
        exact ⟨c, List.mem_of_getElem? h', by rw [hc']; simp⟩
      simp [nameB, this]
theorem nameB_yes {t : Bs} (h0 : t ≠ []) (h : ∀ k c, t[k]? = some c → okAt k c = true) : nameB t = true := by
  cases t with
  | nil => exact absurd rfl h0
  | cons a r =>
    have ha := h 0 a rfl
    have hr : r.all (fun c => alphaB c || digB c) = true := by
      rw [List.all_eq_true]
      intro c hc
      obtain ⟨i, hi⟩ := List.getElem?_of_mem hc
      have := h (i + 1) c (by simpa using hi)
      unfold okAt at this
      simpa using this
    unfold okAt at ha
    simp at ha
    simp [nameB, ha, hr]
theorem ok_iff (k : Nat) (c : UInt8) : okAt k c = true ↔ (c.toNat = 95 ∨ (97 ≤ c.toNat ∧ c.toNat ≤ 122) ∨ (65 ≤ c.toNat ∧ c.toNat ≤ 90) ∨ (k ≠ 0 ∧ 48 ≤ c.toNat ∧ c.toNat ≤ 57)) := by
  have h95 : (c == 95) = true ↔ c.toNat = 95 := by
    rw [beq_iff_eq, ← UInt8.toNat_inj]
    rfl
  unfold okAt alphaB digB
  simp only [Bool.or_eq_true, Bool.and_eq_true, decide_eq_true_eq, h95]
  omega
/-- what Name tells: all of it, or what stands ahead of the first byte that can't be in a name -/
def NmR (T : ByteArray) (w : World) (e : Ending) (w' : World) : Prop := w' = w ∧ ((e = .returned (.string T) ∧ ∀ j c, j < T.size → (tl T)[j]? = some c → okAt j c = true) ∨ ∃ k, k < T.size ∧ e = .returned (.string (T.extract 0 k)) ∧ ∃ c, (tl T)[k]? = some c ∧ okAt k c = false)
set_option maxRecDepth 100000 in
set_option maxHeartbeats 4000000 in
theorem pre_any (T : ByteArray) (w : World) (hs : T.size ≤ 100000) : Calls Tryz.prog 99 #[.string T] w (NmR T w) := by
  go_enter Tryz.func99, Tryz.ntmps99
  go_wp2_with fail
  go_loopw [3, 4, 7, 16, 27] (fun _ _ i _ _ wr => ∃ k : Nat, k ≤ T.size ∧ i = .int .i64 k ∧ wr = w ∧ ∀ j c, j < k → (tl T)[j]? = some c → okAt j c = true) (fun _ _ i _ _ _ => T.size - (intOf i).toNat)
  case atStart => exact ⟨0, Nat.zero_le _, rfl, rfl, fun j c hj => by omega⟩
  case round =>
    obtain ⟨k, hk, rfl, rfl, hok⟩ := hrel
    have HO := hide' hok
    clear hok
    by_cases hkl : k < T.size
    · have k1 : (k : Int) < T.size := by omega
      have hat : (tl T)[k]? = some T[k] := by
        have h1 := getD_at T k hkl
        rw [List.getD_eq_getElem?_getD] at h1
        have h2 : k < (tl T).length := by rw [tl_len]; exact hkl
        rw [List.getElem?_eq_getElem h2] at h1 ⊢
        rw [← h1]
        rfl
      have hno : okAt k T[k] = false → NmR T wr (.returned (.string (T.extract 0 k))) wr := fun h => ⟨rfl, .inr ⟨k, hkl, rfl, _, hat, h⟩⟩
      have hyes : okAt k T[k] = true → ∀ j c, j < k + 1 → (tl T)[j]? = some c → okAt j c = true := fun h j c hj hc => by
        by_cases hjk : j = k
        · subst hjk
          rw [hat] at hc
          cases hc
          exact h
        · exact HO.out j c (by omega) hc
      have HN := hide' (And.intro hno hyes)
      have HI := hide' (ok_iff k T[k])
      clear hno hyes hat
      go_wp2
      all_goals (try simp only [beq_iff_eq, beq_eq_false_iff_ne, ne_eq] at *)
      all_goals try (go_ret; exact HN.out.1 (by rw [← Bool.not_eq_true, HI.out]; omega))
      all_goals refine ⟨⟨k + 1, ?_, ?_, ?_, HN.out.2 (HI.out.2 ?_)⟩, ?_⟩
      all_goals try omega
      all_goals try (simp; done)
      all_goals try (simp [intOf]; omega)
    · obtain rfl : k = T.size := by omega
      have k1 : ¬ (T.size : Int) < T.size := by omega
      have HA : Hid (NmR T wr (.returned (.string T)) wr) := ⟨rfl, .inl ⟨rfl, HO.out⟩⟩
      clear HO
      go_wp2
      go_ret
      exact HA.out
set_option maxHeartbeats 4000000 in
theorem name_any (T : ByteArray) (w : World) (hs : T.size ≤ 100000) : Calls Tryz.prog 83 #[.string T] w fun e w' => e = .returned (.bool (nameB (tl T))) ∧ w' = w := by
  have q := pre_any T w hs
  by_cases h0 : T.size = 0
  · have h1 : tl T = [] := List.length_eq_zero_iff.1 (by rw [tl_len]; exact h0)
    obtain rfl : T = ⟨#[]⟩ := tl_inj _ _ h1
    have hn : nameB (tl (⟨#[]⟩ : ByteArray)) = false := rfl
    rw [hn]
    clear q h0 h1 hn hs
    go_enter Tryz.func83, Tryz.ntmps83
    go_wp2_with fail
    go_ret
    exact ⟨rfl, rfl⟩
  · have hne : ¬ T = ⟨#[]⟩ := fun e => h0 (by rw [e]; rfl)
    have hem : T.toList.isEmpty = false := by
      rw [Lib.toList_data]
      cases h : T.data.toList with
      | nil => exact absurd (tl_inj T ⟨#[]⟩ h) hne
      | cons a r => rfl
    generalize hR : nameB (tl T) = R
    have HR := hide' hR
    clear hR
    go_enter Tryz.func83, Tryz.ntmps83
    go_wp2_with fail
    refine q.mono ?_
    rintro e w' ⟨rfl, ⟨rfl, hall⟩ | ⟨k, hk, rfl, c, hc, hok⟩⟩
    · have h9 : R = true := by
        rw [← HR.out]
        refine nameB_yes (fun e => h0 (by rw [← tl_len, e]; rfl)) fun j c hc => hall j c ?_ hc
        have := (List.getElem?_eq_some_iff.1 hc).1
        rwa [tl_len] at this
      subst h9
      clear hall q HR
      dsimp only
      go_wp2_with fail
      go_ret
      exact ⟨rfl, rfl⟩
    · have h9 : R = false := by rw [← HR.out]; exact nameB_no hc hok
      subst h9
      have hx : ¬ T.extract 0 k = T := fun e => by
        have := congrArg ByteArray.size e
        rw [ByteArray.size_extract] at this
        omega
      have hxl : ((T.extract 0 k).toList == T.toList) = false := beq_eq_false_iff_ne.2 fun e => hx (tl_inj _ _ (by rw [Lib.toList_data, Lib.toList_data] at e; exact e))
      generalize T.extract 0 k = P at *
      clear hc hok q HR
      dsimp only
      go_wp2_with fail
      go_ret
      exact ⟨by first | rfl | (show Ending.returned (.bool (P.toList == T.toList)) = _; rw [hxl]), rfl⟩
end Go.Proofs.YtcemlhfodpelaaaGreatDoor
namespace Go.Proofs.YtcemlhfodpelaaaGreatDoor
open Go.RowKit

theorem cut_len (t : Bs) (c : UInt8) : (Lib.cut t [c]).1.length ≤ t.length := by
  unfold Lib.cut
  split
  · simp; omega
  · exact Nat.le_refl _
set_option maxHeartbeats 2000000 in
theorem assign_any (t : Bs) (w : World) (hs : t.length ≤ 100000) (hm : ∃ m, w.cell? ⟨1, 0, none⟩ = some (.int .i64 m)) : Calls Tryz.prog 146 #[.string (mk t)] w fun e w' => e = .returned (.bool (assignB t)) ∧ ∃ n, w' = w.drewN n := by
  have q := cut_str (mk t) 61 w (by rw [mk_size]; exact hs) hm
  have hl := cut_len t 61
  have q2 := fun w => name_any (mk (Lib.cut t [61]).1) w (by rw [mk_size]; omega)
  rw [tl_mk t] at q
  simp only [tl_mk (Lib.cut t [61]).1] at q2
  obtain ⟨ob, hob⟩ : ∃ ob, (Lib.cut t [61]).2.2 = ob := ⟨_, rfl⟩
  obtain ⟨nb, hnb⟩ : ∃ nb, nameB (Lib.cut t [61]).1 = nb := ⟨_, rfl⟩
  have HA := hide' (show assignB t = (ob && nb) by unfold assignB; rw [hob, hnb])
  simp only [hnb] at q2
  rw [hob] at q
  clear hm hl hob hnb
  generalize mk (Lib.cut t [61]).1 = N1 at *
  generalize mk (Lib.cut t [61]).2.1 = N2 at *
  go_enter Tryz.func146, Tryz.ntmps146
  go_wp2_with fail
  refine q.mono ?_
  rintro e w1 ⟨rfl, n, hw1⟩
  clear q
  dsimp only
  cases ob with
  | true =>
    go_wp2_with fail
    refine (q2 _).mono ?_
    rintro e w2 ⟨rfl, rfl⟩
    dsimp only
    go_wp2
    go_ret
    rw [HA.out]
    exact ⟨rfl, n, rfl⟩
  | false =>
    go_wp2
    go_ret
    rw [HA.out]
    exact ⟨rfl, n, rfl⟩
theorem RowS.keptO {w w' : World} {S : Nat → Prop} {T sz n : Nat} {v : Value} {xs : List Value} (h : RowS w S T sz v n xs) (hk : ∀ g, v.ownBlock = some g → S g → g < w.heap.size → w'.heap[g]? = w.heap[g]?) : RowS w' S T sz v n xs := by
  obtain ⟨h1, h2⟩ := h
  refine ⟨h1, ?_⟩
  rcases h2 with h2 | ⟨g, cap, cur, rfl, h3, h4, h5⟩
  · exact .inl h2
  · exact .inr ⟨g, cap, cur, rfl, h3, (hk g rfl h3 (lt_of_block h4)).trans h4, h5⟩
theorem row_ne {w : World} {S S' : Nat → Prop} {T sz n T' sz' n' : Nat} {v v' : Value} {xs xs' : List Value} (h : RowS w S T sz v n xs) (h' : RowS w S' T' sz' v' n' xs') (hT : T ≠ T') : ∀ b, v.ownBlock = some b → v'.ownBlock ≠ some b := fun b e e' => by
  obtain ⟨_, cur, h1⟩ := h.blk b e
  obtain ⟨_, cur', h2⟩ := h'.blk b e'
  rw [h1] at h2
  injection h2 with h2
  injection h2 with _ h2
  exact hT h2
/-- a simple command that is being built -/
structure SmAt (x : Cx) (w wr : World) (s : PS) (bx : Nat) (aa : Option Addr) (an ac : Nat) (wa : Option Addr) (wn wc : Nat) (ra : Option Addr) (rn rc : Nat) (ag ws : List Bs) (rs : List (Bs × Bs)) : Prop where
  box : BoxAt x w wr s bx #[.int .i64 1, .bool false, .slice aa an ac, .slice wa wn wc, .slice ra rn rc, .slice none 0 0, .slice none 0 0]
  rowA : RowS wr (KS w bx) 9 1 (.slice aa an ac) an (ag.map fun x => .string (mk x))
  rowW : RowS wr (KS w bx) 9 1 (.slice wa wn wc) wn (ws.map fun x => .string (mk x))
  rowR : RowS wr (KS w bx) 65 2 (.slice ra rn rc) rn (rs.flatMap redC)
  la : an = ag.length
  lw : wn = ws.length
  lr : rn = rs.length
  apart : ∀ b, (Value.slice aa an ac).ownBlock = some b → (Value.slice wa wn wc).ownBlock ≠ some b
theorem SmAt.drewN {x : Cx} {w wr : World} {s : PS} {bx : Nat} {aa : Option Addr} {an ac : Nat} {wa : Option Addr} {wn wc : Nat} {ra : Option Addr} {rn rc : Nat} {ag ws : List Bs} {rs : List (Bs × Bs)} (h : SmAt x w wr s bx aa an ac wa wn wc ra rn rc ag ws rs) (m : Nat) : SmAt x w (wr.drewN m) s bx aa an ac wa wn wc ra rn rc ag ws rs :=
  ⟨h.box.below (below_drewn m), h.rowA.kept fun _ _ _ => rfl, h.rowW.kept fun _ _ _ => rfl, h.rowR.kept fun _ _ _ => rfl, h.la, h.lw, h.lr, h.apart⟩
theorem SmAt.cmd {x : Cx} {w wr : World} {s : PS} {bx : Nat} {aa : Option Addr} {an ac : Nat} {wa : Option Addr} {wn wc : Nat} {ra : Option Addr} {rn rc : Nat} {ag ws : List Bs} {rs : List (Bs × Bs)} (h : SmAt x w wr s bx aa an ac wa wn wc ra rn rc ag ws rs) : CdAt wr (fun g => w.heap.size + 1 ≤ g) [.int .i64 1, .bool false, .slice aa an ac, .slice wa wn wc, .slice ra rn rc, .slice none 0 0, .slice none 0 0] (.mk 1 false ag ws rs [] []) := by
  have h1 := h.rowA.mono (S' := fun g => w.heap.size + 1 ≤ g) fun g hg _ => hg.1
  have h2 := h.rowW.mono (S' := fun g => w.heap.size + 1 ≤ g) fun g hg _ => hg.1
  have h3 := h.rowR.mono (S' := fun g => w.heap.size + 1 ≤ g) fun g hg _ => hg.1
  have e1 := h.la
  have e2 := h.lw
  have e3 := h.lr
  subst e1 e2 e3
  exact .intro 1 false ag ws rs [] [] _ _ _ _ _ [] [] h1 h2 h3 (RowS.nil _ _ _ _) rfl (fun i cs c h => by simp at h) (RowS.nil _ _ _ _) rfl (fun i a b h => by simp at h) (fun i a b h => by simp at h)
theorem redir_len {s s' : PS} {r : Bs × Bs} (h : redirP s = .ok r s') (h0 : s.ts ≠ []) : s'.ts.length < s.ts.length := by
  unfold redirP wordP at h
  split at h
  · cases h
    show s.ts.tail.tail.length < _
    cases hs : s.ts with
    | nil => exact absurd hs h0
    | cons a r => simp; omega
  · cases h
theorem nx_len {s : PS} (h0 : s.ts ≠ []) : s.nx.ts.length < s.ts.length := by
  show s.ts.tail.length < _
  cases hs : s.ts with
  | nil => exact absurd hs h0
  | cons a r => simp
theorem psp_len {w : World} {x : Cx} {p : Nat} {s : PS} (h : PsP w x p s) : p + s.ts.length = x.tk.length := by
  have h1 := h.lt
  have h2 := congrArg List.length h.ts
  rw [List.length_drop] at h2
  omega
end Go.Proofs.YtcemlhfodpelaaaGreatDoor
