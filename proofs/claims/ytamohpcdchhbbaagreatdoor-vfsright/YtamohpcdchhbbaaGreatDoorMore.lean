/- The contracts of (*FS).mkdir, remove, touch. -/
import Derived.Test.YtamohpcdchhbbaaGreatDoorWrite
import Derived.Test.YtamohpcdchhbbaaGreatDoorFilled
namespace Go.Proofs.YtamohpcdchhbbaaGreatDoor
open Go.RowKit Go.Maps

def mkdirR (T : Tr) (clk rm : Int) (p : Bs) : Out :=
  match lookN T p with
  | .bad n => (n, T, clk)
  | .rt => (13, T, clk)
  | .is _ => (13, T, clk)
  | .non => putR T clk rm p ⟨true, 0, []⟩
theorem look_non {L : Ents} {p : Bs} (h : lookV L p = .non) : fnd L p = none ∧ valid p = true ∧ p ≠ [] := by
  unfold lookV at h
  cases hv : valid p with
  | false => rw [hv] at h; cases h
  | true =>
    rw [hv] at h
    simp only [if_true] at h
    by_cases hp : p = []
    · subst hp; rw [look_nil] at h; cases h
    · exact ⟨(look_fnd hp h).2.1 rfl, rfl, hp⟩
theorem look_is {L : Ents} {p : Bs} {e : En} (h : lookV L p = .is e) : fnd L p = some e ∧ valid p = true ∧ p ≠ [] := by
  unfold lookV at h
  cases hv : valid p with
  | false => rw [hv] at h; cases h
  | true =>
    rw [hv] at h
    simp only [if_true] at h
    by_cases hp : p = []
    · subst hp; rw [look_nil] at h; cases h
    · exact ⟨(look_fnd hp h).1 _ rfl, rfl, hp⟩
/-- a new empty node is laid -/
theorem put_fresh (A M : Nat) (E : Addr) (L : Ents) (clk rm : Int) (p : Bs) (d : Bool) (S : Nat → Prop) (w w1 : World) (h : FsAt w A M L (weight (nds L)) clk rm) (o : Own w S A M L) (hw : (weight (nds L) : Int) ≤ rm) (hrm : rm ≤ 1048576) (hll : L.length ≤ 1000) (hk0 : 0 ≤ clk) (hk1 : clk ≤ 1099511627776000) (hp : p.length ≤ 1000) (hb : Below w.heap.size w w1) :
    Calls Tryz.prog 80 #[.pointer (some ⟨A, 0, none⟩), .string (mk p), .pointer (some ⟨w1.heap.size, 0, none⟩)] (w1.alloc (.cells #[.bool d, .int .i64 0, .slice none 0 0] 76)) fun r w' => OutAt S A E rm w r w' (putR (nds L) clk rm p ⟨d, 0, []⟩) := by
  have hb3 : Below w.heap.size w (w1.alloc (.cells #[.bool d, .int .i64 0, .slice none 0 0] 76)) := hb.alloc hb.size _
  have hs := hb.size
  have q := put_fs A M E L clk rm p ⟨w1.heap.size, .slice none 0 0, ⟨d, 0, []⟩⟩ S _ (h.below hb3) (o.below hb3) hw hrm hll hk0 hk1 hp (heap_alloc_new w1 _) (.inl ⟨rfl, rfl⟩) (by simp)
    (fun y hy => by have := (h.nodes y (mem_del.1 hy).1).lt; simp only; omega) (fun y hy g hgy e => by simp [Value.ownBlock] at e)
  exact q.mono fun r w' hr => outAt_of (S := S) hb3 (fun i hi => by
    rcases hi with h1 | h1 | h1
    · exact .inl h1
    · simp only at h1; omega
    · simp [Value.ownBlock] at h1) hr

set_option maxHeartbeats 1000000 in
theorem mkdir_fs (B A : Nat) (E : Addr) (T : Tr) (clk rm : Int) (p : Bs) (S : Nat → Prop) (w : World) (h : IsFs w S A T clk rm) (hG : Glo B w E) (hB : B ≤ w.heap.size) (hk1 : clk ≤ 1099511627776000) (hp : p.length ≤ 1000000) :
    Calls Tryz.prog 53 #[.pointer (some ⟨A, 0, none⟩), .string (mk p)] w fun r w' => OutAt S A E rm w r w' (mkdirR T clk rm p) := by
  obtain ⟨M, L, hF, hO, rfl⟩ := h.mem
  have q := look_any B A M L (weight (nds L)) clk rm p w E hF hG hB hp
  have hll : L.length ≤ 1000 := by have := h.len; rwa [nds_length] at this
  unfold mkdirR
  rw [lookV_nd]
  cases hl : lookV L p with
  | bad n =>
    rw [hl] at q
    simp only [Lk.map]
    go_enter Tryz.func53, Tryz.ntmps53
    go_wp2_with fail
    refine q.mono ?_
    rintro r w1 ⟨⟨b, rfl, hf⟩, hb⟩
    have c0 := (hG.keep (hb.mono hB)).c0
    have q2 := is_miss b n E w1 hf.c1
    go_wp2_with fail
    refine q2.mono ?_
    rintro r w2 ⟨rfl, rfl⟩
    go_wp2
    go_ret
    exact ⟨_, .no n, rfl, ⟨b, rfl, hf⟩, rfl, S, h.below hb, Turn.of_below hb, fun i hi => .inl hi⟩
  | rt =>
    rw [hl] at q
    simp only [Lk.map]
    go_enter Tryz.func53, Tryz.ntmps53
    go_wp2_with fail
    refine q.mono ?_
    rintro r w1 ⟨⟨b, hbN, rfl, hn⟩, hb⟩
    go_wp2
    go_ret
    exact ⟨_, .no 13, rfl, ⟨_, rfl, _, heap_alloc_new _ _⟩, rfl, S, h.below (hb.alloc hb.size _), Turn.of_below (hb.alloc hb.size _), fun i hi => .inl hi⟩
  | is e =>
    rw [hl] at q
    simp only [Lk.map]
    go_enter Tryz.func53, Tryz.ntmps53
    go_wp2_with fail
    refine q.mono ?_
    rintro r w1 ⟨rfl, hb⟩
    go_wp2
    go_ret
    exact ⟨_, .no 13, rfl, ⟨_, rfl, _, heap_alloc_new _ _⟩, rfl, S, h.below (hb.alloc hb.size _), Turn.of_below (hb.alloc hb.size _), fun i hi => .inl hi⟩
  | non =>
    rw [hl] at q
    obtain ⟨hf, hv, _⟩ := look_non hl
    simp only [Lk.map]
    go_enter Tryz.func53, Tryz.ntmps53
    go_wp2_with fail
    refine q.mono ?_
    rintro r w1 ⟨⟨b, rfl, hfl⟩, hb⟩
    have c0 := (hG.keep (hb.mono hB)).c0
    have q2 := is_hit b E w1 hfl.c1
    have q3 := put_fresh A M E L clk rm p true S w w1 hF hO h.wt h.rm hll h.clk0 hk1 (valid_len hv) hb
    go_wp2_with fail
    refine q2.mono ?_
    rintro r w2 ⟨rfl, rfl⟩
    go_wp2_with fail
    refine q3.mono ?_
    rintro r w4 ⟨v, k, rfl, hout⟩
    go_wp2
    go_ret
    exact ⟨v, k, rfl, hout⟩

/-- the tree without a node -/
def removeR (T : Tr) (clk : Int) (p : Bs) : Out :=
  if p = [] then (12, T, clk) else
  match lookN T p with
  | .bad n => (n, T, clk)
  | .non => (10, T, clk)
  | .rt => (12, T, clk)
  | .is n => if n.dir && !(kidNames T p).isEmpty then (14, T, clk) else (0, del T p, clk + 1)
theorem kidNames_nds (L : Ents) (p : Bs) : kidNames (nds L) p = kidNames L p := by
  unfold kidNames nds
  rw [List.map_map]
  rfl
/-- a node is taken away -/
theorem fs_del {w w3 : World} {S : Nat → Prop} {A M : Nat} {L : Ents} {wt clk rm wt' clk' : Int} {p : Bs} (h : FsAt w A M L wt clk rm) (o : Own w S A M L) (h3 : Fb w3 A M wt' clk' rm) (m3 : Mp w3 M (del L p)) (ht : Turn (Two A M) w w3) :
    FsAt w3 A M (del L p) wt' clk' rm ∧ Own w3 S A M (del L p) := by
  have o2 : Own w S A M (del L p) := o.sub fun x hx => (mem_del.1 hx).1
  have keepD : ∀ x ∈ del L p, ∀ g, x.2.dv.ownBlock = some g → w3.heap[g]? = w.heap[g]? := fun x hx g hg => by
    have hx' := o2.dat x hx
    refine ht.block _ (hx'.lt g hg) (fun hs => ?_)
    rcases hs with e1 | e1
    · exact dat_ne hx' h.fb g hg e1
    · exact dat_ne_map hx' h.mp g hg e1
  refine ⟨⟨h3, m3, fun x hx => ?_, fun x hx => ((o2.dat x hx).kept (keepD x hx)).rds, h.srt.del p, fun x hx => h.keys x (mem_del.1 hx).1⟩, ⟨o.sA, o.sM, o2.sB, o2.sD, fun x hx => (o2.dat x hx).kept (keepD x hx), o2.apB, o2.apD⟩⟩
  have hx' := h.nodes x (mem_del.1 hx).1
  refine (ht.block _ hx'.lt (fun hs => ?_)).trans hx'
  rcases hs with e1 | e1
  · exact node_ne hx' h.fb e1
  · exact node_ne_map hx' h.mp e1

theorem str_nil (p : Bs) (h : p ≠ []) : p.isEmpty = false := by cases p with | nil => exact absurd rfl h | cons _ _ => rfl
theorem neq_nil57 (w : World) : (binOp .neq 57 .nilIface .nilIface).run Tryz.prog w = .ok (.bool false) w := by kernel_rfl
set_option maxRecDepth 100000 in
set_option maxHeartbeats 2000000 in
theorem remove_fs (B A : Nat) (E : Addr) (T : Tr) (clk rm : Int) (p : Bs) (S : Nat → Prop) (w : World) (h : IsFs w S A T clk rm) (hG : Glo B w E) (hB : B ≤ w.heap.size) (hk1 : clk ≤ 1099511627776000) (hp : p.length ≤ 1000000) :
    Calls Tryz.prog 54 #[.pointer (some ⟨A, 0, none⟩), .string (mk p)] w fun r w' => OutAt S A E rm w r w' (removeR T clk p) := by
  obtain ⟨M, L, hF, hO, rfl⟩ := h.mem
  have q := look_any B A M L (weight (nds L)) clk rm p w E hF hG hB hp
  have hll : L.length ≤ 1000 := by have := h.len; rwa [nds_length] at this
  have hw := h.wt
  have hrm := h.rm
  have hwn : weight (nds L) ≤ 1048576 := by omega
  unfold removeR
  by_cases hp0 : p = []
  · subst hp0
    rw [if_pos rfl]
    go_enter_defers Tryz.func54, Tryz.ntmps54
    go_wp2
    exact ⟨_, results_tmp rfl _ _ _, _, .no 12, rfl, ⟨_, rfl, _, heap_alloc_new _ _⟩, rfl, S, h.below ((Below.refl _ _).alloc (Nat.le_refl _) _), Turn.of_below ((Below.refl _ _).alloc (Nat.le_refl _) _), fun i hi => .inl hi⟩
  · rw [if_neg hp0, lookV_nd]
    have hpe := str_nil p hp0
    cases hl : lookV L p with
    | bad n =>
      rw [hl] at q
      simp only [Lk.map]
      go_enter_defers Tryz.func54, Tryz.ntmps54
      go_wp2_with fail
      refine q.mono ?_
      rintro r w1 ⟨⟨b, rfl, hf⟩, hb⟩
      go_wp2
      exact ⟨_, results_tmp rfl _ _ _, _, .no n, rfl, ⟨b, rfl, hf⟩, rfl, S, h.below hb, Turn.of_below hb, fun i hi => .inl hi⟩
    | non =>
      rw [hl] at q
      simp only [Lk.map]
      go_enter_defers Tryz.func54, Tryz.ntmps54
      go_wp2_with fail
      refine q.mono ?_
      rintro r w1 ⟨⟨b, rfl, hf⟩, hb⟩
      go_wp2
      exact ⟨_, results_tmp rfl _ _ _, _, .nothing, rfl, ⟨b, rfl, hf⟩, rfl, S, h.below hb, Turn.of_below hb, fun i hi => .inl hi⟩
    | rt =>
      exfalso
      unfold lookV at hl
      split at hl
      · exact (look_fnd hp0 hl).2.2 rfl
      · cases hl
    | is e =>
      rw [hl] at q
      simp only [Lk.map]
      obtain ⟨hf, hv, _⟩ := look_is hl
      have hm := fnd_mem hf
      rw [kidNames_nds]
      have hn := hF.nodes _ hm
      have hsz := data_le hwn
      -- behind the drop: the deferred call
      have tail : ∀ w1, Below w.heap.size w w1 → Calls Tryz.prog 85 #[.pointer (some ⟨A, 0, none⟩), .string (mk p)] w1 fun r w2 => r = .returned (.tuple #[]) ∧ Fb w2 A M (weight (nds (del L p))) clk rm ∧ Mp w2 M (del L p) ∧ Turn (Two A M) w1 w2 := fun w1 hb => by
        have := drop_any A M L (weight (nds L)) clk rm p w1 (hF.below hb) (valid_len hv) (by omega) (by omega) (fun x hx => Nat.le_trans (hsz x hx) (by omega))
        rw [weight_del hF.srt p]
        exact this
      have fin : ∀ w1 w2 w3, Below w.heap.size w w1 → Turn (Two A M) w1 w2 → Turn (fun k => k = A) w2 w3 → Fb w3 A M (weight (nds (del L p))) (clk + 1) rm → Mp w3 M (del L p) → OutAt S A E rm w (.returned .nilIface) w3 (0, del (nds L) p, clk + 1) := fun w1 w2 w3 hb t1 t2 f3 m3 => by
        have ht : Turn (Two A M) w1 w3 := t1.trans t2 fun i hi => .inl (.inl hi)
        obtain ⟨hF3, hO3⟩ := fs_del (hF.below hb) (hO.below hb) f3 m3 ht
        have e3 : del (nds L) p = nds (del L p) := (nds_del L p).symm
        refine ⟨.nilIface, .ok, rfl, rfl, rfl, S, ⟨⟨M, _, by simp only [e3]; exact hF3, hO3, e3.symm⟩, ?_, hrm, by have := h.clk0; simp only; omega, ?_⟩, ?_, fun i hi => .inl hi⟩
        · have := weight_del hF.srt p
          simp only [e3]
          omega
        · simp only [e3, nds_length]
          exact Nat.le_trans (del_length_le L p) hll
        · exact (Turn.of_below hb).trans ht fun i hi => .inl (by rcases hi with rfl | rfl; exact hO.sA; exact hO.sM)
      have hk0 := h.clk0
      cases hd : e.nd.dir with
      | false =>
        simp only [Bool.false_and, Bool.false_eq_true, if_false]
        have HT := hide' tail
        have HF := hide' fin
        clear tail fin hsz
        go_enter_defers Tryz.func54, Tryz.ntmps54
        go_wp2_with fail
        refine q.mono ?_
        rintro r w1 ⟨rfl, hb⟩
        have c0 := (hn.below hb).c0
        simp only [hd] at c0
        go_wp2_with fail
        refine (HT.out w1 hb).mono ?_
        rintro r w2 ⟨rfl, f2, m2, t2⟩
        go_wp2
        refine leaves_cons (f := 84) (args := #[.pointer (some ⟨A, 0, none⟩), .slice none 0 0]) (by simp) (by simp [go_sem]) ?_
        refine (fasten_clock A M (del L p) _ clk rm .returning w2 f2 m2 hk0 hk1).mono ?_
        rintro r u' w3 ⟨rfl, rfl, f3, m3, t3⟩
        refine ⟨_, results_tmp rfl _ _ _, ?_⟩
        exact HF.out w1 w2 w3 hb t2 t3 f3 m3
      | true =>
        have q2 := fun w1 (hb : Below w.heap.size w w1) => filled_any A M L (weight (nds L)) clk rm p w1 (hF.below hb) hp
        cases hk : (kidNames L p).isEmpty with
        | true =>
          simp only [Bool.not_true, Bool.and_false, Bool.false_eq_true, if_false]
          rw [hk] at q2
          have HT := hide' tail
          have HF := hide' fin
          clear tail fin hsz
          go_enter_defers Tryz.func54, Tryz.ntmps54
          go_wp2_with fail
          refine q.mono ?_
          rintro r w1 ⟨rfl, hb⟩
          have c0 := (hn.below hb).c0
          simp only [hd] at c0
          go_wp2_with fail
          refine (q2 w1 hb).mono ?_
          rintro r w1' ⟨rfl, hb'⟩
          have hb1 : Below w.heap.size w w1' := hb.trans (hb'.mono hb.size)
          go_wp2_with fail
          refine (HT.out w1' hb1).mono ?_
          rintro r w2 ⟨rfl, f2, m2, t2⟩
          go_wp2
          refine leaves_cons (f := 84) (args := #[.pointer (some ⟨A, 0, none⟩), .slice none 0 0]) (by simp) (by simp [go_sem]) ?_
          refine (fasten_clock A M (del L p) _ clk rm .returning w2 f2 m2 hk0 hk1).mono ?_
          rintro r u' w3 ⟨rfl, rfl, f3, m3, t3⟩
          refine ⟨_, results_tmp rfl _ _ _, ?_⟩
          exact HF.out w1' w2 w3 hb1 t2 t3 f3 m3
        | false =>
          simp only [Bool.not_false, Bool.and_self, if_true]
          rw [hk] at q2
          clear tail fin hsz
          go_enter_defers Tryz.func54, Tryz.ntmps54
          go_wp2_with fail
          refine q.mono ?_
          rintro r w1 ⟨rfl, hb⟩
          have c0 := (hn.below hb).c0
          simp only [hd] at c0
          go_wp2_with fail
          refine (q2 w1 hb).mono ?_
          rintro r w1' ⟨rfl, hb'⟩
          have hb1 : Below w.heap.size w w1' := hb.trans (hb'.mono hb.size)
          go_wp2
          exact ⟨_, results_tmp rfl _ _ _, _, .no 14, rfl, ⟨_, rfl, _, heap_alloc_new _ _⟩, rfl, S, h.below (hb1.alloc hb1.size _), Turn.of_below (hb1.alloc hb1.size _), fun i hi => .inl hi⟩
end Go.Proofs.YtamohpcdchhbbaaGreatDoor
