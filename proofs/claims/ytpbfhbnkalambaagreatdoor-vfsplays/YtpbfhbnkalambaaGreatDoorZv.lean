/- The contract of the reference's Mkdir. The contract of the reference's Remove. The contract of the reference's Tree. -/
import Derived.Test.YtpbfhbnkalambaaGreatDoorZu
import Derived.Test.YtpbfhbnkalambaaGreatDoorZq
namespace Go.Proofs.YtpbfhbnkalambaaGreatDoor
open Go.RowKit Go.Maps

theorem lkOf_bad {α : Type} {o : Option α} {m : Nat} (h : lkOf o = .bad m) : False := by cases o <;> cases h
theorem foldl_bad {α : Type} (isd : α → Bool) (L : List (Bs × α)) (p : Bs) : ∀ (l : List Nat) (s : Lk α) (m : Nat), (∀ n, s = .bad n → n = 10 ∨ n = 11) → l.foldl (stp isd L p) s = .bad m → m = 10 ∨ m = 11
  | [], s, m, hs, h => hs m h
  | i :: l, s, m, hs, h => by
    refine foldl_bad isd L p l _ m (fun n hn => ?_) h
    cases s with
    | bad e => simp only [stp] at hn; cases hn; exact hs _ rfl
    | non => simp only [stp] at hn; cases hn; exact .inl rfl
    | rt => simp only [stp] at hn; exact (lkOf_bad hn).elim
    | is x =>
      simp only [stp] at hn
      split at hn
      · exact (lkOf_bad hn).elim
      · cases hn; exact .inr rfl
theorem lookN_bad {T : Tr} {p : Bs} {m : Nat} (h : lookN T p = .bad m) : m = 10 ∨ m = 11 ∨ m = 16 := by
  unfold lookN at h
  split at h
  · rcases foldl_bad _ T p (ends p) .rt m (fun n hn => by cases hn) h with h | h
    · exact .inl h
    · exact .inr (.inl h)
  · cases h; exact .inr (.inr rfl)
/-- behind a call of the reference: a number, and a file system -/
def RfOut (S : Nat → Prop) (R : Nat) (rm : Int) (w : World) (r : Ending) (w' : World) (o : Out) : Prop :=
  r = .returned (.int .i64 (o.1 : Nat)) ∧ ∃ v' ns' S', RfAt w' S' R v' ns' o.2.2 rm ∧ ns'.map toE = o.2.1 ∧ Turn S w w' ∧ ∀ i, S' i → S i ∨ w.heap.size ≤ i
/-- a file system of the reference with a right tree -/
structure RGd (w : World) (S : Nat → Prop) (R : Nat) (v : Value) (ns : List Nv) (clk rm : Int) : Prop where
  at_ : RfAt w S R v ns clk rm
  gd : Gd (ns.map toE) clk
  len : ns.length ≤ 1000
  wt : (weight (ns.map toE) : Int) ≤ rm
  rm1 : rm ≤ 1048576
  c0 : 0 ≤ clk
  c1 : clk ≤ 1099511627776000
theorem RGd.below {w w' : World} {S : Nat → Prop} {R : Nat} {v : Value} {ns : List Nv} {clk rm : Int} (h : RGd w S R v ns clk rm) (hb : Below w.heap.size w w') : RGd w' S R v ns clk rm := ⟨h.at_.below hb, h.gd, h.len, h.wt, h.rm1, h.c0, h.c1⟩
theorem RGd.data {w : World} {S : Nat → Prop} {R : Nat} {v : Value} {ns : List Nv} {clk rm : Int} (h : RGd w S R v ns clk rm) : ∀ n ∈ ns, n.nd.data.length ≤ 65536 := fun n hn => (h.gd.dat (toE n) (List.mem_map.2 ⟨n, hn, rfl⟩)).2
theorem rf_same {S : Nat → Prop} {R : Nat} {v : Value} {ns : List Nv} {clk rm : Int} {w w' : World} (h : RGd w S R v ns clk rm) (hb : Below w.heap.size w w') (m : Nat) : RfOut S R rm w (.returned (.int .i64 m)) w' (m, ns.map toE, clk) :=
  ⟨rfl, v, ns, S, h.at_.below hb, rfl, Turn.of_below hb, fun _ hi => .inl hi⟩
/-- the clock is set -/
theorem RfAt.clock {w : World} {S : Nat → Prop} {R : Nat} {v : Value} {ns : List Nv} {clk rm : Int} (h : RfAt w S R v ns clk rm) (c : Int) : RfAt (w.setCell ⟨R, 1, none⟩ (.int .i64 c)) S R v ns c rm ∧ Turn S w (w.setCell ⟨R, 1, none⟩ (.int .i64 c)) := by
  have hset : ∀ b, b ≠ R → (w.setCell ⟨R, 1, none⟩ (.int .i64 c)).heap[b]? = w.heap[b]? := fun b hb => Below.heap_setCell w ⟨R, 1, none⟩ _ b (by simpa using hb)
  refine ⟨⟨set_row h.rb 1 _, h.row.kept fun g hg => hset g (h.row.ne_rb h.rb g hg), fun n hn => (h.dat n hn).kept fun g hg => hset g (dat_ne_rb (h.dat n hn) h.rb g hg), h.sR, h.sV, h.sD⟩, rfl, rfl, rfl, Nat.le_of_eq (by simp), fun b _ hn => hset b fun e => hn (by rw [e]; exact h.sR)⟩
/-- what a node that is not there yet comes to -/
theorem putR_new {T : Tr} {clk rm : Int} {p : Bs} {n : Nd} (hf : fnd T p = none) : putR T clk rm p n = if T.length < 1000 ∧ (weight T : Int) + n.wt ≤ rm then (0, put T p { n with time := clk + 1 }, clk + 1) else (15, T, clk) := by
  unfold putR
  have e1 : (put T p n).length = T.length + 1 := by rw [put_length, del_none hf]
  have e2 : weight (put T p n) = n.wt + weight T := by unfold weight; rw [sumOf_put, del_none hf]
  rw [e1, e2]
  by_cases hc : T.length < 1000 ∧ (weight T : Int) + n.wt ≤ rm
  · rw [if_pos hc, if_pos ⟨by omega, by omega⟩]
  · rw [if_neg hc, if_neg (fun h => hc ⟨by omega, by omega⟩)]
set_option maxRecDepth 100000 in
set_option maxHeartbeats 4000000 in
theorem rmkdir_any (S : Nat → Prop) (R : Nat) (v : Value) (ns : List Nv) (clk rm : Int) (P : ByteArray) (w : World) (h : RGd w S R v ns clk rm) (hP : P.size ≤ 300000) :
    Calls Tryz.prog 42 #[.pointer (some ⟨R, 0, none⟩), .string P] w fun r w' => RfOut S R rm w r w' (mkdirR (ns.map toE) clk rm (clean (tl P))) := by
  obtain ⟨va, vc, hv⟩ := h.at_.row.len
  subst hv
  have q := rlook_any R _ ns clk rm P w h.at_.rb h.at_.nodes h.gd.srt h.len hP
  have hcl : (clean (tl P)).length ≤ 300001 := by have := clean_len (tl P); rw [tl_len] at this; omega
  generalize clean (tl P) = c at q hcl ⊢
  generalize hst : mkdirR (ns.map toE) clk rm c = st
  have HST := hide' hst
  have H := hide' h
  clear hst h
  go_enter Tryz.func42, Tryz.ntmps42
  go_wp2_with fail
  refine q.mono ?_
  rintro e w1 ⟨hb1, k, er, rfl, hm⟩
  clear q
  have HB1 := hide' hb1
  clear hb1
  cases hk : lookN (ns.map toE) c with
  | bad m =>
    have hs0 : st = (m, ns.map toE, clk) := by rw [← HST.out]; unfold mkdirR; rw [hk]
    have hm0 := lookN_bad hk
    rw [hk] at hm
    obtain ⟨rfl, rfl⟩ := hm
    have HE := hide' (rf_same H.out HB1.out m)
    rw [← hs0] at HE
    have h1 : ((m : Int) == 0) = false := beq_eq_false_iff_ne.2 (by omega)
    have h2 : ¬ (m : Int) = 0 := by omega
    clear hk HST hs0 hm0
    dsimp only
    go_wp2_with fail
    refine bodyPost_ret (v := .int .i64 m) (by simp [results, Tryz.results42, go_sem]) rfl ?_
    exact HE.out
  | rt =>
    have hs0 : st = (13, ns.map toE, clk) := by rw [← HST.out]; unfold mkdirR; rw [hk]
    rw [hk] at hm
    obtain ⟨rfl, rfl⟩ := hm
    have HE := hide' (rf_same H.out HB1.out 13)
    rw [← hs0] at HE
    clear hk HST hs0
    dsimp only
    go_wp2_with fail
    refine bodyPost_ret (v := .int .i64 13) (by simp [results, Tryz.results42, go_sem]) rfl ?_
    exact HE.out
  | is x =>
    have hs0 : st = (13, ns.map toE, clk) := by rw [← HST.out]; unfold mkdirR; rw [hk]
    rw [hk] at hm
    obtain ⟨rfl, i, n, rfl, hi, hp, rfl⟩ := hm
    have HE := hide' (rf_same H.out HB1.out 13)
    rw [← hs0] at HE
    have hil := (List.getElem?_eq_some_iff.1 hi).1
    have ki3 : ((i : Int) == -2) = false := beq_eq_false_iff_ne.2 (by omega)
    have ki4 : ¬ (i : Int) = -2 := by omega
    have ki5 : (0 : Int) ≤ (i : Int) := by omega
    clear hk HST hs0 hi hp
    dsimp only
    go_wp2_with fail
    refine bodyPost_ret (v := .int .i64 13) (by simp [results, Tryz.results42, go_sem]) rfl ?_
    exact HE.out
  | non =>
    have hnn := lookN_non hk
    have hs0 : st = putR (ns.map toE) clk rm c ⟨true, 0, []⟩ := by rw [← HST.out]; unfold mkdirR; rw [hk]
    rw [putR_new hnn.2.1] at hs0
    rw [hk] at hm
    obtain ⟨rfl, rfl⟩ := hm
    have hR1 := H.out.below HB1.out
    have c0 := hR1.at_.rb.cells
    have c1 : w1.cell? ⟨R, 1, none⟩ = some (.int .i64 clk) := by have := hR1.at_.rb; unfold Rb at this; rw [Lib.cell_of_heap this]; rfl
    have c2 : w1.cell? ⟨R, 2, none⟩ = some (.int .i64 rm) := by have := hR1.at_.rb; unfold Rb at this; rw [Lib.cell_of_heap this]; rfl
    have qw := fun n => rweight_any (.slice va ns.length vc) ns (w1.drewN n) (hR1.at_.nodes.below (below_drewn n)) H.out.len H.out.data
    have hwl := H.out.wt
    have hrm1 := H.out.rm1
    have hln := H.out.len
    have e1 : (ns.map toE).length = ns.length := List.length_map _
    rw [e1] at hs0
    generalize hwt : weight (ns.map toE) = wt at *
    have hw1 : (wt : Int) ≤ 1048576 := by omega
    simp only [Nd.wt, List.length_nil] at hs0
    have HNN := hide' hnn
    have HS0 := hide' hs0
    clear hk HST hnn hs0 hwt e1 hR1 hwl
    by_cases hlen : 1000 ≤ ns.length
    · have g1 : decide ((1000 : Int) ≤ (ns.length : Nat)) = true := decide_eq_true (by omega)
      have g2 : decide (1000 ≤ ns.length) = true := decide_eq_true hlen
      have HS1 : Hid (st = (15, ns.map toE, clk)) := by show _ = _; rw [HS0.out]; exact if_neg fun hh => by omega
      dsimp only
      go_upto_region 8 with fail
      go_quiet (fail)
      go_wp2_with fail
      refine bodyPost_ret (v := .int .i64 15) (by simp [results, Tryz.results42, go_sem]) rfl ?_
      rw [HS1.out]
      exact rf_same H.out (HB1.out.trans (below_drewn _)) 15
    · have g1 : decide ((1000 : Int) ≤ (ns.length : Nat)) = false := decide_eq_false (by omega)
      have g2 : decide (1000 ≤ ns.length) = false := decide_eq_false hlen
      by_cases hroom : rm < (wt : Int) + 1
      · have g3 : decide (rm < (wt : Int) + 1) = true := decide_eq_true hroom
        have HS1 : Hid (st = (15, ns.map toE, clk)) := by show _ = _; rw [HS0.out]; exact if_neg fun hh => by omega
        dsimp only
        go_upto_region 8 with fail
        go_quiet ((go_at_call 34; exact Calls.quiet_of_same (qw _)))
        go_wp2_with fail
        refine bodyPost_ret (v := .int .i64 15) (by simp [results, Tryz.results42, go_sem]) rfl ?_
        rw [HS1.out]
        exact rf_same H.out (HB1.out.trans (below_drewn _)) 15
      · have g3 : decide (rm < (wt : Int) + 1) = false := decide_eq_false hroom
        dsimp only
        go_upto_region 8 with fail
        go_quiet ((go_at_call 34; exact Calls.quiet_of_same (qw _)))
        have HS1 : Hid (st = (0, put (ns.map toE) c ⟨true, clk + 1, []⟩, clk + 1)) := by show _ = _; rw [HS0.out]; exact if_pos ⟨by omega, by omega⟩
        have hR1 := (H.out.below HB1.out).at_
        have f1 : w1.frozen? ⟨R, 1, none⟩ = false := Lib.frozen_of_heap hR1.rb 1
        have hck0 := H.out.c0
        have hck1 := H.out.c1
        have hwr : IntKind.i64.wrap (clk + 1) = clk + 1 := i64_id _ (by omega)
        go_upto_region 11 with fail
        generalize hW2 : World.setCell _ _ _ = W2
        have hR2 : RfAt W2 S R (.slice va ns.length vc) ns (clk + 1) rm := by rw [← hW2]; exact ((hR1.below (below_drewn _)).clock _).1
        have hT2 : Turn S w1 W2 := by rw [← hW2]; exact (Turn.of_below (below_drewn _)).trans' ((hR1.below (below_drewn _)).clock _).2
        have q2 := rput_any S R _ ns ⟨c, .slice none 0 0, ⟨true, clk + 1, []⟩⟩ (clk + 1) rm W2 hR2 H.out.gd.srt H.out.len (Dat.nil _) (fun g hg => by cases hg) HNN.out.2.1
        have d1 : W2.cell? ⟨R, 1, none⟩ = some (.int .i64 (clk + 1)) := by have := hR2.rb; unfold Rb at this; rw [Lib.cell_of_heap this]; rfl
        have HT2 := hide' ((Turn.of_below (S := S) HB1.out).trans' hT2)
        have hsz2 := (Turn.of_below (S := S) HB1.out).trans' hT2 |>.size
        clear hR2 hT2 hW2 c0 c1 c2 f1 qw hwr
        go_wp2_with fail
        refine q2.mono ?_
        rintro r w3 ⟨rfl, v', ns', S', hR3, hm3, hT3, hS3⟩
        have HE : Hid (RfOut S R rm w (.returned (.int .i64 0)) w3 st) := by
          show RfOut _ _ _ _ _ _ _
          rw [HS1.out]
          exact ⟨rfl, v', ns', S', hR3, hm3, HT2.out.trans' hT3, fun i hi => (hS3 i hi).imp id fun h => Nat.le_trans hsz2 h⟩
        clear q2 hR3 hm3 hT3 hS3 d1
        dsimp only
        go_wp2_with fail
        refine bodyPost_ret (v := .int .i64 0) (by simp [results, Tryz.results42, go_sem]) rfl ?_
        exact HE.out
end Go.Proofs.YtpbfhbnkalambaaGreatDoor
namespace Go.Proofs.YtpbfhbnkalambaaGreatDoor
open Go.RowKit Go.Maps

/-- is there a node in the directory p among the first k? -/
def hasKid (ns : List Nv) (p : Bs) : Bool := (ns.map toE).any fun e => decide (par e.1 = p)
theorem hasKid_take {ns : List Nv} {k : Nat} {n : Nv} (p : Bs) (hn : ns[k]? = some n) (h : hasKid (ns.take k) p = false) : hasKid (ns.take (k + 1)) p = decide (par n.path = p) := by
  unfold hasKid at h ⊢
  rw [List.take_add_one, List.map_append, List.any_append, h, hn]
  simp [toE]
set_option maxRecDepth 100000 in
set_option maxHeartbeats 4000000 in
theorem rremove_any (S : Nat → Prop) (R : Nat) (v : Value) (ns : List Nv) (clk rm : Int) (P : ByteArray) (w : World) (h : RGd w S R v ns clk rm) (hP : P.size ≤ 300000) :
    Calls Tryz.prog 43 #[.pointer (some ⟨R, 0, none⟩), .string P] w fun r w' => RfOut S R rm w r w' (removeR (ns.map toE) clk (clean (tl P))) := by
  obtain ⟨va, vc, hv⟩ := h.at_.row.len
  subst hv
  have q := rlook_any R _ ns clk rm P w h.at_.rb h.at_.nodes h.gd.srt h.len hP
  have hcl : (clean (tl P)).length ≤ 300001 := by have := clean_len (tl P); rw [tl_len] at this; omega
  generalize clean (tl P) = c at q hcl ⊢
  generalize hst : removeR (ns.map toE) clk c = st
  have HST := hide' hst
  have H := hide' h
  clear hst h
  go_enter Tryz.func43, Tryz.ntmps43
  go_wp2_with fail
  refine q.mono ?_
  rintro e w1 ⟨hb1, k, er, rfl, hm⟩
  clear q
  have HB1 := hide' hb1
  clear hb1
  cases hk : lookN (ns.map toE) c with
  | bad m =>
    have hne : c ≠ [] := fun e => by rw [e] at hk; cases hk
    have hs0 : st = (m, ns.map toE, clk) := by rw [← HST.out]; unfold removeR; rw [if_neg hne, hk]
    have hm0 := lookN_bad hk
    rw [hk] at hm
    obtain ⟨rfl, rfl⟩ := hm
    have HE := hide' (rf_same H.out HB1.out m)
    rw [← hs0] at HE
    have h1 : ((m : Int) == 0) = false := beq_eq_false_iff_ne.2 (by omega)
    have h2 : ¬ (m : Int) = 0 := by omega
    clear hk HST hs0 hm0 hne
    dsimp only
    go_wp2_with fail
    refine bodyPost_ret (v := .int .i64 m) (by simp [results, Tryz.results43, go_sem]) rfl ?_
    exact HE.out
  | rt =>
    have hs0 : st = (12, ns.map toE, clk) := by
      rw [← HST.out]; unfold removeR; rw [hk]
      by_cases hne : c = []
      · rw [if_pos hne]
      · rw [if_neg hne]
    rw [hk] at hm
    obtain ⟨rfl, rfl⟩ := hm
    have HE := hide' (rf_same H.out HB1.out 12)
    rw [← hs0] at HE
    clear hk HST hs0
    dsimp only
    go_wp2_with fail
    refine bodyPost_ret (v := .int .i64 12) (by simp [results, Tryz.results43, go_sem]) rfl ?_
    exact HE.out
  | non =>
    have hnn := lookN_non hk
    have hs0 : st = (10, ns.map toE, clk) := by rw [← HST.out]; unfold removeR; rw [if_neg hnn.2.2.1, hk]
    rw [hk] at hm
    obtain ⟨rfl, rfl⟩ := hm
    have HE := hide' (rf_same H.out HB1.out 10)
    rw [← hs0] at HE
    clear hk HST hs0 hnn
    dsimp only
    go_wp2_with fail
    refine bodyPost_ret (v := .int .i64 10) (by simp [results, Tryz.results43, go_sem]) rfl ?_
    exact HE.out
  | is x =>
    have hnn := lookN_is hk
    have hval : ∀ e ∈ ns.map toE, valid e.1 = true ∧ e.1 ≠ [] := H.out.gd.val
    have hs0 : st = if hasKid ns c = true then (14, ns.map toE, clk) else (0, del (ns.map toE) c, clk + 1) := by
      rw [← HST.out]
      unfold removeR
      rw [if_neg hnn.2.2.1, hk]
      simp only
      have e1 : (kidNames (ns.map toE) c).isEmpty = !hasKid ns c := kid_some hval
      rw [e1, Bool.not_not]
      cases hd : x.dir with
      | true => simp
      | false =>
        have hno : hasKid ns c = false := by
          cases hh : hasKid ns c with
          | false => rfl
          | true =>
            unfold hasKid at hh
            obtain ⟨e, he, hp⟩ := List.any_eq_true.1 hh
            have hp' := of_decide_eq_true hp
            exact absurd hp' (H.out.gd.no_kid hnn.2.1 hd e he (by rw [hp']; exact hnn.2.2.1))
        rw [hno]
        simp
    rw [hk] at hm
    obtain ⟨rfl, i, n, rfl, hi, hp, rfl⟩ := hm
    have hil := (List.getElem?_eq_some_iff.1 hi).1
    have ki3 : ((i : Int) == -2) = false := beq_eq_false_iff_ne.2 (by omega)
    have ki4 : ¬ (i : Int) = -2 := by omega
    have ki5 : ¬ (i : Int) < 0 := by omega
    have hln := H.out.len
    have HS0 := hide' hs0
    have HIS := hide' (And.intro hi hp)
    have HV := hide' hval
    clear hk HST hs0 hnn hi hp hval
    dsimp only
    go_wp2_with fail
    go_loopw [8] (fun j wr => ∃ j' : Nat, j' ≤ ns.length ∧ j = .int .i64 j' ∧ Hid (hasKid (ns.take j') c = false) ∧ Hid (Below w.heap.size w wr)) (fun j _ => ns.length - (intOf j).toNat)
    case atStart => exact ⟨0, Nat.zero_le _, rfl, hide' rfl, hide' HB1.out⟩
    case round =>
      obtain ⟨j, hj, rfl, HNO, HBR⟩ := hrel
      have hR1 := (H.out.below HBR.out).at_
      have c0 := hR1.rb.cells
      by_cases hjl : j < ns.length
      · have k1 : (j : Int) < ns.length := by omega
        obtain ⟨m, hm⟩ : ∃ m, ns[j]? = some m := ⟨_, List.getElem?_eq_getElem hjl⟩
        have hmm := List.mem_of_getElem? hm
        obtain ⟨g, rfl⟩ : ∃ g, va = some ⟨g, 0, none⟩ := by
          rcases hR1.row with ⟨_, e0⟩ | ⟨g, cap, cur, e, _⟩
          · rw [e0] at hm; simp at hm
          · cases e; exact ⟨g, rfl⟩
        have d0 : wr.cell? ⟨g, j * 4, none⟩ = some (.string (mk m.path)) := by
          rcases hR1.row with ⟨e0, _⟩ | ⟨g', cap, cur, e, hg, h1, h2, h4⟩
          · cases e0
          · cases e
            exact cell_row (r := 0) hg h4 hm (by omega) rfl
        have hpl : m.path.length ≤ 1000 := by
          have := (HV.out (toE m) (List.mem_map.2 ⟨m, hmm, rfl⟩)).1
          unfold valid at this
          simp only [Bool.and_eq_true, decide_eq_true_eq] at this
          exact this.1.1
        have q := rparent_any (mk m.path) (by rw [mk_size]; omega) wr
        rw [tl_mk] at q
        have hpp : parent m.path = par m.path := rfl
        rw [hpp] at q
        have htk := hasKid_take c hm HNO.out
        have HTK := hide' htk
        clear hm htk hR1 hpp
        by_cases hpc : par m.path = c
        · have e1 : (par m.path == c) = true := beq_iff_eq.2 hpc
          have HS1 : Hid (st = (14, ns.map toE, clk)) := by
            show _ = _
            rw [HS0.out]
            refine if_pos ?_
            unfold hasKid
            exact List.any_eq_true.2 ⟨toE m, List.mem_map.2 ⟨m, hmm, rfl⟩, decide_eq_true hpc⟩
          generalize par m.path = pm at *
          clear hpc
          go_wp2_with fail
          refine q.mono ?_
          rintro r w2 ⟨rfl, hb2⟩
          have HB2 := hide' (HBR.out.trans (hb2.mono HBR.out.size))
          clear q hb2
          dsimp only
          go_wp2_with fail
          refine bodyPost_ret (v := .int .i64 14) (by simp [results, Tryz.results43, go_sem]) rfl ?_
          rw [HS1.out]
          exact rf_same H.out HB2.out 14
        · have e1 : (par m.path == c) = false := beq_eq_false_iff_ne.2 hpc
          have HT2 : Hid (hasKid (ns.take (j + 1)) c = false) := by show _ = _; rw [HTK.out]; exact decide_eq_false hpc
          generalize par m.path = pm at *
          clear hpc
          go_wp2_with fail
          refine q.mono ?_
          rintro r w2 ⟨rfl, hb2⟩
          have HB2 := hide' (HBR.out.trans (hb2.mono HBR.out.size))
          clear q hb2
          dsimp only
          go_wp2_with fail
          exact ⟨⟨j + 1, by omega, by simp, HT2, HB2⟩, by simp [intOf]; omega⟩
      · obtain rfl : j = ns.length := by omega
        have k1 : ¬ (ns.length : Int) < ns.length := by omega
        have hno := HNO.out
        rw [List.take_length] at hno
        have HS1 : Hid (st = (0, del (ns.map toE) c, clk + 1)) := by show _ = _; rw [HS0.out]; exact if_neg (by rw [hno]; simp)
        have f1 : wr.frozen? ⟨R, 1, none⟩ = false := Lib.frozen_of_heap hR1.rb 1
        have c1 : wr.cell? ⟨R, 1, none⟩ = some (.int .i64 clk) := by have := hR1.rb; unfold Rb at this; rw [Lib.cell_of_heap this]; rfl
        have hck0 := H.out.c0
        have hck1 := H.out.c1
        have hwr : IntKind.i64.wrap (clk + 1) = clk + 1 := i64_id _ (by omega)
        clear hno
        go_upto_region 14 with fail
        generalize hW2 : World.setCell _ _ _ = W2
        have hR2 : RfAt W2 S R (.slice va ns.length vc) ns (clk + 1) rm := by rw [← hW2]; exact (hR1.clock _).1
        have hT2 : Turn S wr W2 := by rw [← hW2]; exact (hR1.clock _).2
        have q2 := rdrop_any S R _ ns i (clk + 1) rm W2 hR2 H.out.len hil
        have HT2 := hide' ((Turn.of_below (S := S) HBR.out).trans' hT2)
        have hsz2 := (Turn.of_below (S := S) HBR.out).trans' hT2 |>.size
        clear hR2 hT2 hW2 c0 c1 f1 hwr hR1
        go_wp2_with fail
        refine q2.mono ?_
        rintro r w3 ⟨rfl, v', S', hR3, hT3, hS3⟩
        have HE : Hid (RfOut S R rm w (.returned (.int .i64 0)) w3 st) := by
          show RfOut _ _ _ _ _ _ _
          rw [HS1.out]
          refine ⟨rfl, v', _, S', hR3, ?_, HT2.out.trans' hT3, fun i hi => (hS3 i hi).imp id fun h => Nat.le_trans hsz2 h⟩
          have hTk : (ns.map toE)[i]? = some (n.path, n.nd) := by rw [List.getElem?_map, HIS.out.1]; rfl
          have := del_at H.out.gd.srt hTk
          rw [HIS.out.2] at this
          rw [this, List.map_append, List.map_take, List.map_drop]
        clear q2 hR3 hT3 hS3
        dsimp only
        go_wp2_with fail
        refine bodyPost_ret (v := .int .i64 0) (by simp [results, Tryz.results43, go_sem]) rfl ?_
        exact HE.out
end Go.Proofs.YtpbfhbnkalambaaGreatDoor
namespace Go.Proofs.YtpbfhbnkalambaaGreatDoor
open Go.RowKit Go.Maps

structure RtC (R : Nat) (clk rm : Int) (w : World) : Prop where
  c1 : w.cell? ⟨R, 1, none⟩ = some (.int .i64 clk)
  c2 : w.cell? ⟨R, 2, none⟩ = some (.int .i64 rm)
theorem res21 (tmps : Array Value) (b : Nat) (x y z : Value) (W : World) (h4 : tmps.getD 2 undef = .pointer (some ⟨b, 0, none⟩)) (hb : W.heap[b]? = some (.cells #[x, y, z] 24 (0, 0))) : (results Tryz.f21 tmps).run Tryz.prog W = .ok (.agg #[x, y, z]) W := by
  simp only [Array.getD_eq_getD_getElem?] at h4
  have c0 : W.cell? ⟨b, 0, none⟩ = some x := by rw [Lib.cell_of_heap hb]; rfl
  have c1 : W.cell? ⟨b, 1, none⟩ = some y := by rw [Lib.cell_of_heap hb]; rfl
  have c2 : W.cell? ⟨b, 2, none⟩ = some z := by rw [Lib.cell_of_heap hb]; rfl
  simp [results, Tryz.results21, go_sem, h4, c0, c1, c2]
theorem row_some' {w : World} {S : Nat → Prop} {R : Nat} {va : Option Addr} {vc : Nat} {ns : List Nv} {clk rm : Int} (h : RfAt w S R (.slice va ns.length vc) ns clk rm) {i : Nat} {n : Nv} (hi : ns[i]? = some n) : ∃ g, va = some ⟨g, 0, none⟩ := by
  rcases h.row with ⟨_, e0⟩ | ⟨g, cap, cur, e, _⟩
  · rw [e0] at hi; simp at hi
  · cases e; exact ⟨g, rfl⟩
theorem row_cells' {w : World} {S : Nat → Prop} {R g : Nat} {vc : Nat} {ns : List Nv} {clk rm : Int} (h : RfAt w S R (.slice (some ⟨g, 0, none⟩) ns.length vc) ns clk rm) {i : Nat} {n : Nv} (hi : ns[i]? = some n) :
    w.cell? ⟨g, i * 4, none⟩ = some (.string (mk n.path)) ∧ w.cell? ⟨g, i * 4 + 1, none⟩ = some (.bool n.nd.dir) ∧ w.cell? ⟨g, i * 4 + 2, none⟩ = some (.int .i64 n.nd.time) ∧ w.cell? ⟨g, i * 4 + 3, none⟩ = some n.dv := by
  rcases h.row with ⟨e0, _⟩ | ⟨g', cap, cur, e, hg, h1, h2, h4⟩
  · cases e0
  · cases e
    exact ⟨cell_row (r := 0) hg h4 hi (by omega) rfl, cell_row (r := 1) hg h4 hi (by omega) rfl, cell_row (r := 2) hg h4 hi (by omega) rfl, cell_row (r := 3) hg h4 hi (by omega) rfl⟩
/-- a tree in building, its box at tb -/
structure TbAt (W : World) (tb : Nat) (va : Value) (ms : List Nv) (clk rm : Int) (wr : World) : Prop where
  box : wr.heap[tb]? = some (.cells #[va, .int .i64 clk, .int .i64 rm] 24 (0, 0))
  row : NOwn wr va ms
  dat : ∀ n ∈ ms, Dat wr n.dv n.nd.data
  turn : Turn (fun i => i = tb) W wr
  vhi : ∀ g, va.ownBlock = some g → W.heap.size ≤ g
set_option maxRecDepth 100000 in
set_option maxHeartbeats 4000000 in
theorem rtree_any (S : Nat → Prop) (R : Nat) (v : Value) (ns : List Nv) (clk rm : Int) (w : World) (h : RfAt w S R v ns clk rm) (hl : ns.length ≤ 1000) (hdl : ∀ n ∈ ns, n.nd.data.length ≤ 65536) :
    Calls Tryz.prog 21 #[.pointer (some ⟨R, 0, none⟩)] w fun r w' => (∃ v' ms, r = .returned (.agg #[v', .int .i64 clk, .int .i64 rm]) ∧ Nodes w' v' ms ∧ ms.map toE = ns.map toE) ∧ Below w.heap.size w w' := by
  obtain ⟨va, vc, hv⟩ := h.row.len
  subst hv
  obtain ⟨w0, hw0⟩ : ∃ w0, w0 = w.alloc (.cells #[.slice none 0 0, .int .i64 0, .int .i64 0] 24) := ⟨_, rfl⟩
  have hb0 : Below w.heap.size w w0 := by rw [hw0]; exact (Below.refl _ _).alloc (Nat.le_refl _) _
  have z0 : w0.heap[w.heap.size]? = some (.cells #[.slice none 0 0, .int .i64 0, .int .i64 0] 24 (0, 0)) := by rw [hw0]; exact alloc_new _ _
  have hs0 : w0.heap.size = w.heap.size + 1 := by rw [hw0]; simp
  have hR0 := h.below hb0
  have hRb := hR0.rb
  unfold Rb at hRb
  have hTC : RtC R clk rm w0 := ⟨by rw [Lib.cell_of_heap hRb]; rfl, by rw [Lib.cell_of_heap hRb]; rfl⟩
  have hRlt := lt_of_block h.rb
  obtain ⟨W1, hW1⟩ : ∃ W1, W1 = w0.drew := ⟨_, rfl⟩
  have HTC : Hid (RtC R clk rm W1) := by rw [hW1]; exact hide' ⟨hTC.c1, hTC.c2⟩
  have hb1 : Below w0.heap.size w0 W1 := by rw [hW1]; exact ⟨rfl, rfl, rfl, Nat.le_refl _, fun _ _ => rfl⟩
  have hs1 : W1.heap.size = w.heap.size + 1 := by rw [hW1]; exact hs0
  have HW0 := hide' hw0
  have HB0 := hide' (hb0.trans (hb1.mono hb0.size))
  have HZ0 := hide' ((hb1.block w.heap.size (by omega)).trans z0)
  have H := hide' h
  have HDL := hide' hdl
  clear hw0 hb0 z0 hR0 hRb hTC h hdl hb1
  go_enter Tryz.func21, Tryz.ntmps21
  go_upto_region 1 with fail
  rw [← HW0.out]
  refine wp_region_classX [10] (C := RtC R clk rm) (by kernel_rfl) ?_
  rw [← hW1]
  clear hW1 HW0
  (refine wpAnyX_take (i := 0) (v := ?_) HTC.out rfl (by kernel_rfl) (by kernel_rfl) (by kernel_rfl) (by kernel_rfl) (fun _ _ _ h => h) (Or.inl ⟨by kernel_rfl, ?_⟩) ?_; rotate_left; (intro w hc; have k0 := hc.c1; have k1 := hc.c2; clear hc; go_simp; try with_reducible rfl))
  (refine wpAnyX_take (i := 1) (v := ?_) HTC.out rfl (by kernel_rfl) (by kernel_rfl) (by kernel_rfl) (by kernel_rfl) (fun _ _ _ h => h) (Or.inl ⟨by kernel_rfl, ?_⟩) ?_; rotate_left; (intro w hc; have k0 := hc.c1; have k1 := hc.c2; clear hc; go_simp; try with_reducible rfl))
  (refine wpAnyX_take (i := 2) (v := ?_) HTC.out rfl (by kernel_rfl) (by kernel_rfl) (by kernel_rfl) (by kernel_rfl) (fun _ _ _ h => h) (Or.inl ⟨by kernel_rfl, ?_⟩) ?_; rotate_left; (intro w hc; have k0 := hc.c1; have k1 := hc.c2; clear hc; go_simp; try with_reducible rfl))
  (refine wpAnyX_take (i := 3) (v := ?_) HTC.out rfl (by kernel_rfl) (by kernel_rfl) (by kernel_rfl) (by kernel_rfl) (fun _ _ _ h => h) (Or.inl ⟨by kernel_rfl, ?_⟩) ?_; rotate_left; (intro w hc; have k0 := hc.c1; have k1 := hc.c2; clear hc; go_simp; try with_reducible rfl))
  (refine wpAnyX_take (i := 4) (v := ?_) HTC.out rfl (by kernel_rfl) (by kernel_rfl) (by kernel_rfl) (by kernel_rfl) (fun _ _ _ h => h) (Or.inl ⟨by kernel_rfl, ?_⟩) ?_; rotate_left; (intro w hc; have k0 := hc.c1; have k1 := hc.c2; clear hc; go_simp; try with_reducible rfl))
  go_simp
  (refine wpAnyX_take (i := 5) (v := ?_) HTC.out rfl (by kernel_rfl) (by kernel_rfl) (by kernel_rfl) (by kernel_rfl) (fun _ _ _ h => h) (Or.inl ⟨by kernel_rfl, ?_⟩) ?_; rotate_left; (intro w hc; have k0 := hc.c1; have k1 := hc.c2; clear hc; go_simp; try with_reducible rfl))
  (refine wpAnyX_take (i := 6) (v := ?_) HTC.out rfl (by kernel_rfl) (by kernel_rfl) (by kernel_rfl) (by kernel_rfl) (fun _ _ _ h => h) (Or.inl ⟨by kernel_rfl, ?_⟩) ?_; rotate_left; (intro w hc; have k0 := hc.c1; have k1 := hc.c2; clear hc; go_simp; try with_reducible rfl))
  (refine wpAnyX_take (i := 7) (v := ?_) HTC.out rfl (by kernel_rfl) (by kernel_rfl) (by kernel_rfl) (by kernel_rfl) (fun _ _ _ h => h) (Or.inl ⟨by kernel_rfl, ?_⟩) ?_; rotate_left; (intro w hc; have k0 := hc.c1; have k1 := hc.c2; clear hc; go_simp; try with_reducible rfl))
  (refine wpAnyX_take (i := 8) (v := ?_) HTC.out rfl (by kernel_rfl) (by kernel_rfl) (by kernel_rfl) (by kernel_rfl) (fun _ _ _ h => h) (Or.inl ⟨by kernel_rfl, ?_⟩) ?_; rotate_left; (intro w hc; have k0 := hc.c1; have k1 := hc.c2; clear hc; go_simp; try with_reducible rfl))
  go_simp
  refine wpAnyX_one (i := 9) (by kernel_rfl) (wpOp_wanted rfl (by rfl) ?_)
  have hc9 : RtC R clk rm (W1.alloc (.cells #[.slice none 0 0, .int .i64 0, .int .i64 0] 24)) := by
    have hbk : Below W1.heap.size W1 (W1.alloc (.cells #[.slice none 0 0, .int .i64 0, .int .i64 0] 24)) := (Below.refl _ _).alloc (Nat.le_refl _) _
    exact ⟨(hbk.cell (p := ⟨R, 1, none⟩) (by show R < _; omega)).trans HTC.out.c1, (hbk.cell (p := ⟨R, 2, none⟩) (by show R < _; omega)).trans HTC.out.c2⟩
  go_simp
  refine wpAnyX_one (i := 10) (by kernel_rfl) (wpOp_wanted rfl (by rfl) ?_)
  go_simp
  refine wpAnyX_done (by kernel_rfl) ?_ _
  obtain ⟨W, hW⟩ : ∃ W, W = W1.alloc (.cells #[.slice none 0 0, .int .i64 clk, .int .i64 rm] 24) := ⟨_, rfl⟩
  have hbW : Below W1.heap.size W1 W := by rw [hW]; exact (Below.refl _ _).alloc (Nat.le_refl _) _
  have zW : W.heap[w.heap.size + 1]? = some (.cells #[.slice none 0 0, .int .i64 clk, .int .i64 rm] 24 (0, 0)) := by rw [hW, ← hs1]; exact alloc_new _ _
  have hsW : W.heap.size = w.heap.size + 2 := by rw [hW]; simp [hs1]
  have HBW := hide' (HB0.out.trans (hbW.mono HB0.out.size))
  have HZW := hide' ((hbW.block w.heap.size (by omega)).trans HZ0.out)
  have HZ1 := hide' zW
  rw [← hW]
  clear hW hc9 hbW zW HTC HZ0
  have hsW' : w.heap.size + 2 ≤ W.heap.size := by omega
  clear hsW hs1 hs0
  go_wp2_with fail
  go_loopw [4, 5] (fun i _ wr => ∃ (k : Nat) (va' : Value) (ms : List Nv), k ≤ ns.length ∧ i = .int .i64 k ∧ Hid (TbAt W (w.heap.size + 1) va' ms clk rm wr) ∧ Hid (ms.map toE = (ns.take k).map toE)) (fun i _ _ => ns.length - (intOf i).toNat)
  case atStart => exact ⟨0, .slice none 0 0, [], Nat.zero_le _, rfl, hide' ⟨HZ1.out, NOwn.nil _, fun n hn => (by cases hn), Turn.refl _ _, fun g hg => by cases hg⟩, hide' rfl⟩
  case round =>
    obtain ⟨k, va', ms, hk, rfl, HT, HM⟩ := hrel
    have hBr : Below w.heap.size w wr := HBW.out.trans (HT.out.turn.below HBW.out.size fun i e => by omega)
    have hRr := H.out.below hBr
    have c0 := hRr.rb.cells
    have hszr := HT.out.turn.size
    have HBR := hide' hBr
    by_cases hkl : k < ns.length
    · have k1 : (k : Int) < ns.length := by omega
      obtain ⟨m, hm⟩ : ∃ m, ns[k]? = some m := ⟨_, List.getElem?_eq_getElem hkl⟩
      have hmem := List.mem_of_getElem? hm
      obtain ⟨g, rfl⟩ := row_some' hRr hm
      obtain ⟨d0, d1, d2, d3⟩ := row_cells' hRr hm
      have hrd := (hRr.dat m hmem).rds
      obtain ⟨da, dc, hdv⟩ := hrd.len
      rw [hdv] at d3 hrd
      have hdl := HDL.out m hmem
      obtain ⟨w5, hw5⟩ : ∃ w5, w5 = wr.alloc (.cells #[.string (mk m.path), .bool m.nd.dir, .int .i64 m.nd.time, .slice da m.nd.data.length dc] 55) := ⟨_, rfl⟩
      have hb5 : Below wr.heap.size wr w5 := by rw [hw5]; exact (Below.refl _ _).alloc (Nat.le_refl _) _
      have z5 : w5.heap[wr.heap.size]? = some (.cells #[.string (mk m.path), .bool m.nd.dir, .int .i64 m.nd.time, .slice da m.nd.data.length dc] 55 (0, 0)) := by rw [hw5]; exact alloc_new _ _
      have hs5 : wr.heap.size < w5.heap.size := by rw [hw5]; simp
      have y3 : w5.cell? ⟨wr.heap.size, 3, none⟩ = some (.slice da m.nd.data.length dc) := by rw [Lib.cell_of_heap z5]; rfl
      have HRD5 := hide' (hrd.below hb5)
      have HB5 := hide' hb5
      have HZ5 := hide' z5
      have HW5 := hide' hw5
      have HIS := hide' hm
      clear hb5 z5 hw5 hrd hRr hBr hm hdv
      generalize hdln : m.nd.data.length = dl at *
      have HDN := hide' hdln
      clear hdln
      go_upto_region 6 with fail
      rw [← HW5.out]
      clear HW5 d0 d1 d2 d3 c0
      go_upto_region 7 with (at_builtin; refine wpList_plain rfl fun _ hK => ?_; refine wp_append_own2 (v := .slice none 0 0) (xs := []) _ _ _ rfl rfl rfl (Dat.nil _) HRD5.out (by simp only [List.length_nil]; have := HDL.out m hmem; omega) ?_; intro v6 w6 hd6 _ hg6 hat6; obtain ⟨v6a, v6c, hv6⟩ := hd6.len; rw [List.nil_append, HDN.out] at hv6; subst hv6; have z6 := (hg6.block _ hs5 (fun e => by cases e)).trans HZ5.out; have y6 : w6.cell? ⟨wr.heap.size, 3, none⟩ = some (.slice da dl dc) := (by rw [Lib.cell_of_heap z6]; rfl); have yf := Lib.frozen_of_heap z6 3; refine hK _ _ ?_)
      rw [List.nil_append] at hd6
      have hB6 : Below wr.heap.size wr w6 := HB5.out.trans ⟨hg6.os, hg6.tape, hg6.output, hg6.size, fun k hk => hg6.block k (Nat.lt_of_lt_of_le hk HB5.out.size) fun e => by cases e⟩
      have hown6 : ∀ b, (Value.slice v6a dl v6c).ownBlock = some b → w5.heap.size ≤ b := fun b hb => by
        rcases hat6 with h9 | h9
        · rw [h9] at hb
          cases hb
        · rw [h9] at hb
          cases hb
          exact Nat.le_refl _
      obtain ⟨w7, hw7⟩ : ∃ w7, w7 = w6.setCell ⟨wr.heap.size, 3, none⟩ (.slice v6a dl v6c) := ⟨_, rfl⟩
      have hB7 : Below wr.heap.size wr w7 := by rw [hw7]; exact hB6.setCell (p := ⟨wr.heap.size, 3, none⟩) (Nat.le_refl _) _
      have z7 : w7.heap[wr.heap.size]? = some (.cells #[.string (mk m.path), .bool m.nd.dir, .int .i64 m.nd.time, .slice v6a dl v6c] 55 (0, 0)) := by rw [hw7]; exact set_row z6 3 _
      have hd7 : Dat w7 (.slice v6a dl v6c) m.nd.data := by
        rw [hw7]
        exact hd6.kept fun b hb => Below.heap_setCell _ ⟨wr.heap.size, 3, none⟩ _ b (by have := hown6 b hb; show b ≠ wr.heap.size; omega)
      have hs7 : wr.heap.size < w7.heap.size := by rw [hw7]; have := hg6.size; simp; omega
      rw [← hw7]
      have a0 : w7.cell? ⟨wr.heap.size, 0, none⟩ = some (.string (mk m.path)) := by rw [Lib.cell_of_heap z7]; rfl
      have a1 : w7.cell? ⟨wr.heap.size, 1, none⟩ = some (.bool m.nd.dir) := by rw [Lib.cell_of_heap z7]; rfl
      have a2 : w7.cell? ⟨wr.heap.size, 2, none⟩ = some (.int .i64 m.nd.time) := by rw [Lib.cell_of_heap z7]; rfl
      have a3 : w7.cell? ⟨wr.heap.size, 3, none⟩ = some (.slice v6a dl v6c) := by rw [Lib.cell_of_heap z7]; rfl
      have hbx7 := (hB7.block (w.heap.size + 1) (by omega)).trans HT.out.box
      have x0 : w7.cell? ⟨w.heap.size + 1, 0, none⟩ = some va' := by rw [Lib.cell_of_heap hbx7]; rfl
      obtain ⟨w8, hw8⟩ : ∃ w8, w8 = w7.alloc (.cells #[.string (mk m.path), .bool m.nd.dir, .int .i64 m.nd.time, .slice v6a dl v6c] 55) := ⟨_, rfl⟩
      have hb8 : Below w7.heap.size w7 w8 := by rw [hw8]; exact (Below.refl _ _).alloc (Nat.le_refl _) _
      have z8 : w8.heap[w7.heap.size]? = some (.cells #[.string (mk m.path), .bool m.nd.dir, .int .i64 m.nd.time, .slice v6a dl v6c] 55 (0, 0)) := by rw [hw8]; exact alloc_new _ _
      have hB8 : Below wr.heap.size wr w8 := hB7.trans (hb8.mono hB7.size)
      have hrow8 : NOwn w8 va' ms := HT.out.row.kept fun b hb => hB8.block b (HT.out.row.lt b hb)
      have hsrc8 : NSrc w8 (.slice (some ⟨w7.heap.size, 0, none⟩) 1 1) [⟨m.path, .slice v6a dl v6c, m.nd⟩] := .inr ⟨_, _, rfl, fun j u hj => by
        rw [add_zero, Lib.cell_of_heap z8]
        simpa [flat, cellsN] using hj⟩
      have hsl8 : Sl [(⟨m.path, .slice v6a dl v6c, m.nd⟩ : Nv)] := fun n hn => by rw [List.mem_singleton.1 hn]; exact ⟨_, _, _, rfl⟩
      have hml : ms.length ≤ 1000 := by
        have := congrArg List.length HM.out
        rw [List.length_map, List.length_map, List.length_take] at this
        omega
      have hbx8 := (hb8.block (w.heap.size + 1) (by omega)).trans hbx7
      have HROW8 := hide' hrow8
      have HSRC8 := hide' hsrc8
      have HBX8 := hide' hbx8
      have HB8 := hide' hB8
      have HD8 := hide' (hd7.kept (w' := w8) fun b hb => hb8.block b (hd7.lt b hb))
      have HW8 := hide' hw8
      have hs8 := hB8.size
      clear hg6 hat6 hd6 hB6 hown6 hB7 z7 hd7 hw7 hbx7 hb8 z8 hB8 hrow8 hsrc8 hbx8 hw8 z6 y6 yf HZ5 HRD5 y3 HB5
      go_upto_region 4 with (at_builtin; rw [← HW8.out]; refine wpList_plain rfl fun _ hK => ?_; refine wp_append22 (v := va') (x := .slice (some ⟨w7.heap.size, 0, none⟩) 1 1) _ _ _ rfl rfl rfl HROW8.out HSRC8.out hsl8 (by simp; omega) ?_; intro v9 w9 ho9 hg9 hat9; obtain ⟨v9a, v9c, hv9⟩ := ho9.len; generalize hnn : (ms ++ [(⟨m.path, .slice v6a dl v6c, m.nd⟩ : Nv)]).length = nn at hv9; subst hv9; have hbx9 : w9.heap[w.heap.size + 1]? = some (.cells #[va', .int .i64 clk, .int .i64 rm] 24 (0, 0)) := (hg9.block _ (by omega) (fun e => by have := HT.out.vhi _ e.symm; omega)).trans HBX8.out; have x9 : w9.cell? ⟨w.heap.size + 1, 0, none⟩ = some va' := (by rw [Lib.cell_of_heap hbx9]; rfl); have xf := Lib.frozen_of_heap hbx9 0; refine hK _ _ ?_)
      obtain ⟨w10, hw10⟩ : ∃ w10, w10 = w9.setCell ⟨w.heap.size + 1, 0, none⟩ (.slice v9a nn v9c) := ⟨_, rfl⟩
      rw [← hw10]
      have hset : ∀ b, b ≠ w.heap.size + 1 → w10.heap[b]? = w9.heap[b]? := fun b hb => by rw [hw10]; exact Below.heap_setCell w9 ⟨w.heap.size + 1, 0, none⟩ _ b (by simpa using hb)
      have hat9' : ∀ b, (Value.slice v9a nn v9c).ownBlock = some b → W.heap.size ≤ b := fun b hb => by
        rcases hat9 with h9 | h9
        · rw [h9] at hb; exact HT.out.vhi b hb
        · rw [h9] at hb; cases hb; omega
      have hs10 : w10.heap.size = w9.heap.size := by rw [hw10]; simp
      have ho10 : w10.os = w9.os ∧ w10.tape = w9.tape ∧ w10.output = w9.output := by rw [hw10]; exact ⟨rfl, rfl, rfl⟩
      have hdk : ∀ u bs, Dat w8 u bs → Dat w10 u bs := fun u bs hd => by
        have h9 : Dat w9 u bs := hd.kept fun b hb => hg9.block b (hd.lt b hb) fun e => HROW8.out.ne_dat hd b e.symm hb
        refine h9.kept fun b hb => hset b fun e => ?_
        obtain ⟨cur, hc⟩ := h9.elem b hb
        rw [e, hbx9] at hc
        simp at hc
      have hfin : TbAt W (w.heap.size + 1) (.slice v9a nn v9c) (ms ++ [⟨m.path, .slice v6a dl v6c, m.nd⟩]) clk rm w10 := by
        refine ⟨by rw [hw10]; exact set_row hbx9 0 _, ho9.kept fun b hb => hset b fun e => by have := hat9' b hb; omega, fun n hn => ?_, ?_, hat9'⟩
        · rcases List.mem_append.1 hn with hn | hn
          · exact hdk _ _ ((HT.out.dat n hn).kept fun b hb => HB8.out.block b ((HT.out.dat n hn).lt b hb))
          · rw [List.mem_singleton.1 hn]
            exact hdk _ _ HD8.out
        · have t1 : Turn (fun i => i = w.heap.size + 1 ∨ W.heap.size ≤ i) wr w8 := Turn.of_below HB8.out
          have t2 : Turn (fun i => i = w.heap.size + 1 ∨ W.heap.size ≤ i) w8 w9 := Turn.of_grown hg9 fun b e => .inr (HT.out.vhi b e)
          have t3 : Turn (fun i => i = w.heap.size + 1 ∨ W.heap.size ≤ i) w9 w10 := ⟨ho10.1, ho10.2.1, ho10.2.2, Nat.le_of_eq hs10.symm, fun b _ hn => hset b fun e => hn (.inl e)⟩
          exact HT.out.turn.trans ((t1.trans' t2).trans' t3) fun i hi => hi
      have hmm : (ms ++ [(⟨m.path, .slice v6a dl v6c, m.nd⟩ : Nv)]).map toE = (ns.take (k + 1)).map toE := by
        rw [List.map_append, HM.out, List.take_add_one, HIS.out, List.map_append]
        rfl
      have HFIN := hide' hfin
      have HMM := hide' hmm
      clear hfin hmm hdk hset hat9' hw10 ho9 hg9 hat9 hbx9 x9 xf HROW8 HSRC8 HBX8 HB8 HD8 HW8 a0 a1 a2 a3 x0 hs10 ho10 hsl8
      go_wp2_with fail
      exact ⟨⟨k + 1, _, _, by omega, by simp, HFIN, HMM⟩, by simp [intOf]; omega⟩
    · obtain rfl : k = ns.length := by omega
      have k1 : ¬ (ns.length : Int) < ns.length := by omega
      have hmm := HM.out
      rw [List.take_length] at hmm
      have hbx := HT.out.box
      have x0 : wr.cell? ⟨w.heap.size + 1, 0, none⟩ = some va' := by rw [Lib.cell_of_heap hbx]; rfl
      have x1 : wr.cell? ⟨w.heap.size + 1, 1, none⟩ = some (.int .i64 clk) := by rw [Lib.cell_of_heap hbx]; rfl
      have x2 : wr.cell? ⟨w.heap.size + 1, 2, none⟩ = some (.int .i64 rm) := by rw [Lib.cell_of_heap hbx]; rfl
      have y1r := (HT.out.turn.block w.heap.size (by omega) (by omega)).trans HZW.out
      have s0 : wr.cell? ⟨w.heap.size, 0, none⟩ = some (.slice none 0 0) := by rw [Lib.cell_of_heap y1r]; rfl
      have s1 : wr.cell? ⟨w.heap.size, 1, none⟩ = some (.int .i64 0) := by rw [Lib.cell_of_heap y1r]; rfl
      have s2 : wr.cell? ⟨w.heap.size, 2, none⟩ = some (.int .i64 0) := by rw [Lib.cell_of_heap y1r]; rfl
      have g0 := Lib.frozen_of_heap y1r 0
      have g1 := Lib.frozen_of_heap y1r 1
      have g2 := Lib.frozen_of_heap y1r 2
      obtain ⟨a9, c9, hv9⟩ := HT.out.row.len
      generalize hnn : ms.length = nn at hv9
      have HV9 := hide' hv9
      have HY1 := hide' y1r
      have HMM := hide' hmm
      subst hv9
      clear hmm hbx y1r hRr
      go_wp2_with fail
      refine bodyPost_ret (res21 _ _ _ _ _ _ rfl (set_row (set_row (set_row HY1.out 0 _) 1 _) 2 _)) rfl ?_
      obtain ⟨wz, hwz⟩ : ∃ wz, wz = ((wr.setCell ⟨w.heap.size, 0, none⟩ (.slice a9 nn c9)).setCell ⟨w.heap.size, 1, none⟩ (.int .i64 clk)).setCell ⟨w.heap.size, 2, none⟩ (.int .i64 rm) := ⟨_, rfl⟩
      have hBz : Below w.heap.size w wz := by
        rw [hwz]
        exact ((HBR.out.setCell (p := ⟨w.heap.size, 0, none⟩) (Nat.le_refl _) _).setCell (p := ⟨w.heap.size, 1, none⟩) (Nat.le_refl _) _).setCell (p := ⟨w.heap.size, 2, none⟩) (Nat.le_refl _) _
      have hkz : ∀ b, b ≠ w.heap.size → wz.heap[b]? = wr.heap[b]? := fun b hb => by
        rw [hwz]
        exact (Below.heap_setCell _ ⟨w.heap.size, 2, none⟩ _ b (by simpa using hb)).trans ((Below.heap_setCell _ ⟨w.heap.size, 1, none⟩ _ b (by simpa using hb)).trans (Below.heap_setCell _ ⟨w.heap.size, 0, none⟩ _ b (by simpa using hb)))
      rw [← hwz]
      have hdz : ∀ n ∈ ms, Dat wz n.dv n.nd.data := fun n hn => (HT.out.dat n hn).kept fun b hb => hkz b fun e => by
        obtain ⟨cur, hc⟩ := (HT.out.dat n hn).elem b hb
        rw [e, HY1.out] at hc
        simp at hc
      refine ⟨⟨_, rfl, ms, (HT.out.row.kept fun b hb => hkz b fun e => ?_).nodes fun n hn => (hdz n hn).rds, HMM.out⟩, hBz⟩
      have := HT.out.vhi b hb
      omega
end Go.Proofs.YtpbfhbnkalambaaGreatDoor
