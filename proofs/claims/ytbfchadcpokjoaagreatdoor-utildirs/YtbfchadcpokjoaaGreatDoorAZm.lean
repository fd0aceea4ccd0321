/- The contracts of (*FS).mkdir, remove, touch. The contracts of (*FS).touch and rename. The contracts of (*FS).Write, Mkdir, Remove, Touch, Rename, Stat. -/
import Derived.Test.YtbfchadcpokjoaaGreatDoorAZw
import Derived.Test.YtbfchadcpokjoaaGreatDoorAZk
namespace Go.Proofs.YtbfchadcpokjoaaGreatDoor
open Go.RowKit Go.Maps

def mkdirR (T : Tr) (clk rm : Int) (p : Bs) : Out :=
  match lookN T p with
  | .bad n => (n, T, clk)
  | .rt => (13, T, clk)
  | .is _ => (13, T, clk)
  | .non => putR T clk rm p ⟨true, 0, []⟩
theorem look_non {L : Ents} {p : Bs} (h : lookV L p = .non) : fnd L p = none ∧ valid p = true ∧ p ≠ [] := by
  unfold lookV at h
  cases hv : valid p with
  | false => rw [hv] at h; cases h
  | true =>
    rw [hv] at h
    simp only [if_true] at h
    by_cases hp : p = []
    · subst hp; rw [look_nil] at h; cases h
    · exact ⟨(look_fnd hp h).2.1 rfl, rfl, hp⟩
theorem look_is {L : Ents} {p : Bs} {e : En} (h : lookV L p = .is e) : fnd L p = some e ∧ valid p = true ∧ p ≠ [] := by
  unfold lookV at h
  cases hv : valid p with
  | false => rw [hv] at h; cases h
  | true =>
    rw [hv] at h
    simp only [if_true] at h
    by_cases hp : p = []
    · subst hp; rw [look_nil] at h; cases h
    · exact ⟨(look_fnd hp h).1 _ rfl, rfl, hp⟩
/-- a new empty node is laid -/
theorem put_fresh (A M : Nat) (E : Addr) (L : Ents) (clk rm : Int) (p : Bs) (d : Bool) (S : Nat → Prop) (w w1 : World) (h : FsAt w A M L (weight (nds L)) clk rm) (o : Own w S A M L) (hw : (weight (nds L) : Int) ≤ rm) (hrm : rm ≤ 1048576) (hll : L.length ≤ 1000) (hk0 : 0 ≤ clk) (hk1 : clk ≤ 1099511627776000) (hp : p.length ≤ 1000) (hb : Below w.heap.size w w1) :
    Calls Tryz.prog 57 #[.pointer (some ⟨A, 0, none⟩), .string (mk p), .pointer (some ⟨w1.heap.size, 0, none⟩)] (w1.alloc (.cells #[.bool d, .int .i64 0, .slice none 0 0] 66)) fun r w' => OutAt S A E rm w r w' (putR (nds L) clk rm p ⟨d, 0, []⟩) := by
  have hb3 : Below w.heap.size w (w1.alloc (.cells #[.bool d, .int .i64 0, .slice none 0 0] 66)) := hb.alloc hb.size _
  have hs := hb.size
  have q := put_fs A M E L clk rm p ⟨w1.heap.size, .slice none 0 0, ⟨d, 0, []⟩⟩ S _ (h.below hb3) (o.below hb3) hw hrm hll hk0 hk1 hp (heap_alloc_new w1 _) (.inl ⟨rfl, rfl⟩) (by simp)
    (fun y hy => by have := (h.nodes y (mem_del.1 hy).1).lt; simp only; omega) (fun y hy g hgy e => by simp [Value.ownBlock] at e)
  exact q.mono fun r w' hr => outAt_of (S := S) hb3 (fun i hi => by
    rcases hi with h1 | h1 | h1
    · exact .inl h1
    · simp only at h1; omega
    · simp [Value.ownBlock] at h1) hr

set_option maxHeartbeats 1000000 in
theorem mkdir_fs (B A : Nat) (E : Addr) (T : Tr) (clk rm : Int) (p : Bs) (S : Nat → Prop) (w : World) (h : IsFs w S A T clk rm) (hG : Glo B w E) (hB : B ≤ w.heap.size) (hk1 : clk ≤ 1099511627776000) (hp : p.length ≤ 1000000) :
    Calls Tryz.prog 27 #[.pointer (some ⟨A, 0, none⟩), .string (mk p)] w fun r w' => OutAt S A E rm w r w' (mkdirR T clk rm p) := by
  obtain ⟨M, L, hF, hO, rfl⟩ := h.mem
  have q := look_any B A M L (weight (nds L)) clk rm p w E hF hG hB hp
  have hll : L.length ≤ 1000 := by have := h.len; rwa [nds_length] at this
  unfold mkdirR
  rw [lookV_nd]
  cases hl : lookV L p with
  | bad n =>
    rw [hl] at q
    simp only [Lk.map]
    go_enter Tryz.func27, Tryz.ntmps27
    go_wp2_with fail
    refine q.mono ?_
    rintro r w1 ⟨⟨b, rfl, hf⟩, hb⟩
    have c0 := (hG.keep (hb.mono hB)).c0
    have q2 := is_miss b n E w1 hf.c1
    go_wp2_with fail
    refine q2.mono ?_
    rintro r w2 ⟨rfl, rfl⟩
    go_wp2
    go_ret
    exact ⟨_, .no n, rfl, ⟨b, rfl, hf⟩, rfl, S, h.below hb, Turn.of_below hb, fun i hi => .inl hi⟩
  | rt =>
    rw [hl] at q
    simp only [Lk.map]
    go_enter Tryz.func27, Tryz.ntmps27
    go_wp2_with fail
    refine q.mono ?_
    rintro r w1 ⟨⟨b, hbN, rfl, hn⟩, hb⟩
    go_wp2
    go_ret
    exact ⟨_, .no 13, rfl, ⟨_, rfl, _, heap_alloc_new _ _⟩, rfl, S, h.below (hb.alloc hb.size _), Turn.of_below (hb.alloc hb.size _), fun i hi => .inl hi⟩
  | is e =>
    rw [hl] at q
    simp only [Lk.map]
    go_enter Tryz.func27, Tryz.ntmps27
    go_wp2_with fail
    refine q.mono ?_
    rintro r w1 ⟨rfl, hb⟩
    go_wp2
    go_ret
    exact ⟨_, .no 13, rfl, ⟨_, rfl, _, heap_alloc_new _ _⟩, rfl, S, h.below (hb.alloc hb.size _), Turn.of_below (hb.alloc hb.size _), fun i hi => .inl hi⟩
  | non =>
    rw [hl] at q
    obtain ⟨hf, hv, _⟩ := look_non hl
    simp only [Lk.map]
    go_enter Tryz.func27, Tryz.ntmps27
    go_wp2_with fail
    refine q.mono ?_
    rintro r w1 ⟨⟨b, rfl, hfl⟩, hb⟩
    have c0 := (hG.keep (hb.mono hB)).c0
    have q2 := is_hit b E w1 hfl.c1
    have q3 := put_fresh A M E L clk rm p true S w w1 hF hO h.wt h.rm hll h.clk0 hk1 (valid_len hv) hb
    go_wp2_with fail
    refine q2.mono ?_
    rintro r w2 ⟨rfl, rfl⟩
    go_wp2_with fail
    refine q3.mono ?_
    rintro r w4 ⟨v, k, rfl, hout⟩
    go_wp2
    go_ret
    exact ⟨v, k, rfl, hout⟩

/-- the tree without a node -/
def removeR (T : Tr) (clk : Int) (p : Bs) : Out :=
  if p = [] then (12, T, clk) else
  match lookN T p with
  | .bad n => (n, T, clk)
  | .non => (10, T, clk)
  | .rt => (12, T, clk)
  | .is n => if n.dir && !(kidNames T p).isEmpty then (14, T, clk) else (0, del T p, clk + 1)
theorem kidNames_nds (L : Ents) (p : Bs) : kidNames (nds L) p = kidNames L p := by
  unfold kidNames nds
  rw [List.map_map]
  rfl
/-- a node is taken away -/
theorem fs_del {w w3 : World} {S : Nat → Prop} {A M : Nat} {L : Ents} {wt clk rm wt' clk' : Int} {p : Bs} (h : FsAt w A M L wt clk rm) (o : Own w S A M L) (h3 : Fb w3 A M wt' clk' rm) (m3 : Mp w3 M (del L p)) (ht : Turn (Two A M) w w3) :
    FsAt w3 A M (del L p) wt' clk' rm ∧ Own w3 S A M (del L p) := by
  have o2 : Own w S A M (del L p) := o.sub fun x hx => (mem_del.1 hx).1
  have keepD : ∀ x ∈ del L p, ∀ g, x.2.dv.ownBlock = some g → w3.heap[g]? = w.heap[g]? := fun x hx g hg => by
    have hx' := o2.dat x hx
    refine ht.block _ (hx'.lt g hg) (fun hs => ?_)
    rcases hs with e1 | e1
    · exact dat_ne hx' h.fb g hg e1
    · exact dat_ne_map hx' h.mp g hg e1
  refine ⟨⟨h3, m3, fun x hx => ?_, fun x hx => ((o2.dat x hx).kept (keepD x hx)).rds, h.srt.del p, fun x hx => h.keys x (mem_del.1 hx).1⟩, ⟨o.sA, o.sM, o2.sB, o2.sD, fun x hx => (o2.dat x hx).kept (keepD x hx), o2.apB, o2.apD⟩⟩
  have hx' := h.nodes x (mem_del.1 hx).1
  refine (ht.block _ hx'.lt (fun hs => ?_)).trans hx'
  rcases hs with e1 | e1
  · exact node_ne hx' h.fb e1
  · exact node_ne_map hx' h.mp e1

theorem str_nil (p : Bs) (h : p ≠ []) : p.isEmpty = false := by cases p with | nil => exact absurd rfl h | cons _ _ => rfl
theorem neq_nil57 (w : World) : (binOp .neq 55 .nilIface .nilIface).run Tryz.prog w = .ok (.bool false) w := by kernel_rfl
set_option maxRecDepth 100000 in
set_option maxHeartbeats 2000000 in
theorem remove_fs (B A : Nat) (E : Addr) (T : Tr) (clk rm : Int) (p : Bs) (S : Nat → Prop) (w : World) (h : IsFs w S A T clk rm) (hG : Glo B w E) (hB : B ≤ w.heap.size) (hk1 : clk ≤ 1099511627776000) (hp : p.length ≤ 1000000) :
    Calls Tryz.prog 122 #[.pointer (some ⟨A, 0, none⟩), .string (mk p)] w fun r w' => OutAt S A E rm w r w' (removeR T clk p) := by
  obtain ⟨M, L, hF, hO, rfl⟩ := h.mem
  have q := look_any B A M L (weight (nds L)) clk rm p w E hF hG hB hp
  have hll : L.length ≤ 1000 := by have := h.len; rwa [nds_length] at this
  have hw := h.wt
  have hrm := h.rm
  have hwn : weight (nds L) ≤ 1048576 := by omega
  unfold removeR
  by_cases hp0 : p = []
  · subst hp0
    rw [if_pos rfl]
    go_enter_defers Tryz.func122, Tryz.ntmps122
    go_wp2
    exact ⟨_, results_tmp rfl _ _ _, _, .no 12, rfl, ⟨_, rfl, _, heap_alloc_new _ _⟩, rfl, S, h.below ((Below.refl _ _).alloc (Nat.le_refl _) _), Turn.of_below ((Below.refl _ _).alloc (Nat.le_refl _) _), fun i hi => .inl hi⟩
  · rw [if_neg hp0, lookV_nd]
    have hpe := str_nil p hp0
    cases hl : lookV L p with
    | bad n =>
      rw [hl] at q
      simp only [Lk.map]
      go_enter_defers Tryz.func122, Tryz.ntmps122
      go_wp2_with fail
      refine q.mono ?_
      rintro r w1 ⟨⟨b, rfl, hf⟩, hb⟩
      go_wp2
      exact ⟨_, results_tmp rfl _ _ _, _, .no n, rfl, ⟨b, rfl, hf⟩, rfl, S, h.below hb, Turn.of_below hb, fun i hi => .inl hi⟩
    | non =>
      rw [hl] at q
      simp only [Lk.map]
      go_enter_defers Tryz.func122, Tryz.ntmps122
      go_wp2_with fail
      refine q.mono ?_
      rintro r w1 ⟨⟨b, rfl, hf⟩, hb⟩
      go_wp2
      exact ⟨_, results_tmp rfl _ _ _, _, .nothing, rfl, ⟨b, rfl, hf⟩, rfl, S, h.below hb, Turn.of_below hb, fun i hi => .inl hi⟩
    | rt =>
      exfalso
      unfold lookV at hl
      split at hl
      · exact (look_fnd hp0 hl).2.2 rfl
      · cases hl
    | is e =>
      rw [hl] at q
      simp only [Lk.map]
      obtain ⟨hf, hv, _⟩ := look_is hl
      have hm := fnd_mem hf
      rw [kidNames_nds]
      have hn := hF.nodes _ hm
      have hsz := data_le hwn
      -- behind the drop: the deferred call
      have tail : ∀ w1, Below w.heap.size w w1 → Calls Tryz.prog 63 #[.pointer (some ⟨A, 0, none⟩), .string (mk p)] w1 fun r w2 => r = .returned (.tuple #[]) ∧ Fb w2 A M (weight (nds (del L p))) clk rm ∧ Mp w2 M (del L p) ∧ Turn (Two A M) w1 w2 := fun w1 hb => by
        have := drop_any A M L (weight (nds L)) clk rm p w1 (hF.below hb) (valid_len hv) (by omega) (by omega) (fun x hx => Nat.le_trans (hsz x hx) (by omega))
        rw [weight_del hF.srt p]
        exact this
      have fin : ∀ w1 w2 w3, Below w.heap.size w w1 → Turn (Two A M) w1 w2 → Turn (fun k => k = A) w2 w3 → Fb w3 A M (weight (nds (del L p))) (clk + 1) rm → Mp w3 M (del L p) → OutAt S A E rm w (.returned .nilIface) w3 (0, del (nds L) p, clk + 1) := fun w1 w2 w3 hb t1 t2 f3 m3 => by
        have ht : Turn (Two A M) w1 w3 := t1.trans t2 fun i hi => .inl (.inl hi)
        obtain ⟨hF3, hO3⟩ := fs_del (hF.below hb) (hO.below hb) f3 m3 ht
        have e3 : del (nds L) p = nds (del L p) := (nds_del L p).symm
        refine ⟨.nilIface, .ok, rfl, rfl, rfl, S, ⟨⟨M, _, by simp only [e3]; exact hF3, hO3, e3.symm⟩, ?_, hrm, by have := h.clk0; simp only; omega, ?_⟩, ?_, fun i hi => .inl hi⟩
        · have := weight_del hF.srt p
          simp only [e3]
          omega
        · simp only [e3, nds_length]
          exact Nat.le_trans (del_length_le L p) hll
        · exact (Turn.of_below hb).trans ht fun i hi => .inl (by rcases hi with rfl | rfl; exact hO.sA; exact hO.sM)
      have hk0 := h.clk0
      cases hd : e.nd.dir with
      | false =>
        simp only [Bool.false_and, Bool.false_eq_true, if_false]
        have HT := hide' tail
        have HF := hide' fin
        clear tail fin hsz
        go_enter_defers Tryz.func122, Tryz.ntmps122
        go_wp2_with fail
        refine q.mono ?_
        rintro r w1 ⟨rfl, hb⟩
        have c0 := (hn.below hb).c0
        simp only [hd] at c0
        go_wp2_with fail
        refine (HT.out w1 hb).mono ?_
        rintro r w2 ⟨rfl, f2, m2, t2⟩
        go_wp2
        refine leaves_cons (f := 107) (args := #[.pointer (some ⟨A, 0, none⟩), .slice none 0 0]) (by simp) (by simp [go_sem]) ?_
        refine (fasten_clock A M (del L p) _ clk rm .returning w2 f2 m2 hk0 hk1).mono ?_
        rintro r u' w3 ⟨rfl, rfl, f3, m3, t3⟩
        refine ⟨_, results_tmp rfl _ _ _, ?_⟩
        exact HF.out w1 w2 w3 hb t2 t3 f3 m3
      | true =>
        have q2 := fun w1 (hb : Below w.heap.size w w1) => filled_any A M L (weight (nds L)) clk rm p w1 (hF.below hb) hp
        cases hk : (kidNames L p).isEmpty with
        | true =>
          simp only [Bool.not_true, Bool.and_false, Bool.false_eq_true, if_false]
          rw [hk] at q2
          have HT := hide' tail
          have HF := hide' fin
          clear tail fin hsz
          go_enter_defers Tryz.func122, Tryz.ntmps122
          go_wp2_with fail
          refine q.mono ?_
          rintro r w1 ⟨rfl, hb⟩
          have c0 := (hn.below hb).c0
          simp only [hd] at c0
          go_wp2_with fail
          refine (q2 w1 hb).mono ?_
          rintro r w1' ⟨rfl, hb'⟩
          have hb1 : Below w.heap.size w w1' := hb.trans (hb'.mono hb.size)
          go_wp2_with fail
          refine (HT.out w1' hb1).mono ?_
          rintro r w2 ⟨rfl, f2, m2, t2⟩
          go_wp2
          refine leaves_cons (f := 107) (args := #[.pointer (some ⟨A, 0, none⟩), .slice none 0 0]) (by simp) (by simp [go_sem]) ?_
          refine (fasten_clock A M (del L p) _ clk rm .returning w2 f2 m2 hk0 hk1).mono ?_
          rintro r u' w3 ⟨rfl, rfl, f3, m3, t3⟩
          refine ⟨_, results_tmp rfl _ _ _, ?_⟩
          exact HF.out w1' w2 w3 hb1 t2 t3 f3 m3
        | false =>
          simp only [Bool.not_false, Bool.and_self, if_true]
          rw [hk] at q2
          clear tail fin hsz
          go_enter_defers Tryz.func122, Tryz.ntmps122
          go_wp2_with fail
          refine q.mono ?_
          rintro r w1 ⟨rfl, hb⟩
          have c0 := (hn.below hb).c0
          simp only [hd] at c0
          go_wp2_with fail
          refine (q2 w1 hb).mono ?_
          rintro r w1' ⟨rfl, hb'⟩
          have hb1 : Below w.heap.size w w1' := hb.trans (hb'.mono hb.size)
          go_wp2
          exact ⟨_, results_tmp rfl _ _ _, _, .no 14, rfl, ⟨_, rfl, _, heap_alloc_new _ _⟩, rfl, S, h.below (hb1.alloc hb1.size _), Turn.of_below (hb1.alloc hb1.size _), fun i hi => .inl hi⟩
end Go.Proofs.YtbfchadcpokjoaaGreatDoor
namespace Go.Proofs.YtbfchadcpokjoaaGreatDoor
open Go.RowKit Go.Maps

theorem ins_first {α : Type} (x : Bs × α) (r : List (Bs × α)) (h : ∀ y ∈ r, bytesBefore x.1 y.1 = true) : ins x r = x :: r := by
  cases r with
  | nil => rfl
  | cons y t => unfold ins; rw [if_pos (h y (by simp))]
theorem put_same {α : Type} {L : List (Bs × α)} (h : Srt L) {p : Bs} {x : α} (hf : fnd L p = some x) : put L p x = L := by
  induction L with
  | nil => cases hf
  | cons y r ih =>
    obtain ⟨h1, h2⟩ := List.pairwise_cons.1 h
    rw [fnd_cons] at hf
    by_cases e : y.1 = p
    · rw [if_pos e] at hf
      have hn : fnd r p = none := fnd_none_of fun q hq => fun e2 => before_ne (h1 q hq) (e.trans e2.symm)
      have hd : del (y :: r) p = r := by
        unfold del
        rw [List.filter_cons, if_neg (by simp [e])]
        exact del_none hn
      have hy : y = (p, x) := by rw [← e, ← Option.some.inj hf]
      unfold put
      rw [hd, hy]
      exact ins_first _ _ fun z hz => by have := h1 z hz; rw [hy] at this; exact this
    · rw [if_neg e] at hf
      have hd : del (y :: r) p = y :: del r p := by
        unfold del
        rw [List.filter_cons, if_pos (by simp [e])]
      have hb : ¬ bytesBefore p y.1 = true := by
        have := before_asymm (h1 _ (fnd_mem hf))
        simp only at this
        rw [this]; simp
      unfold put
      rw [hd]
      unfold ins
      rw [if_neg hb]
      have := ih h2 hf
      unfold put at this
      rw [this]

def touchR (T : Tr) (clk rm : Int) (p : Bs) : Out :=
  if p = [] then (0, T, clk) else
  match lookN T p with
  | .bad n => (n, T, clk)
  | .non => putR T clk rm p ⟨false, 0, []⟩
  | .rt => (0, T, clk)
  | .is n => (0, put T p { n with time := clk + 1 }, clk + 1)
set_option maxRecDepth 100000 in
set_option maxHeartbeats 2000000 in
theorem touch_fs (B A : Nat) (E : Addr) (T : Tr) (clk rm : Int) (p : Bs) (S : Nat → Prop) (w : World) (h : IsFs w S A T clk rm) (hG : Glo B w E) (hB : B ≤ w.heap.size) (hk1 : clk ≤ 1099511627776000) (hp : p.length ≤ 1000000) :
    Calls Tryz.prog 123 #[.pointer (some ⟨A, 0, none⟩), .string (mk p)] w fun r w' => OutAt S A E rm w r w' (touchR T clk rm p) := by
  obtain ⟨M, L, hF, hO, rfl⟩ := h.mem
  have q := look_any B A M L (weight (nds L)) clk rm p w E hF hG hB hp
  have hll : L.length ≤ 1000 := by have := h.len; rwa [nds_length] at this
  have hw := h.wt
  have hrm := h.rm
  unfold touchR
  by_cases hp0 : p = []
  · subst hp0
    rw [if_pos rfl]
    go_enter_defers Tryz.func123, Tryz.ntmps123
    go_wp2
    refine ⟨_, results_tmp rfl _ _ _, ?_⟩
    exact ⟨_, .ok, rfl, rfl, rfl, S, h, Turn.refl _ _, fun i hi => .inl hi⟩
  · rw [if_neg hp0, lookV_nd]
    have hpe := str_nil p hp0
    cases hl : lookV L p with
    | bad n =>
      rw [hl] at q
      simp only [Lk.map]
      go_enter_defers Tryz.func123, Tryz.ntmps123
      go_wp2_with fail
      refine q.mono ?_
      rintro r w1 ⟨⟨b, rfl, hf⟩, hb⟩
      have c0 := (hG.keep (hb.mono hB)).c0
      have q2 := is_miss b n E w1 hf.c1
      go_wp2_with fail
      refine q2.mono ?_
      rintro r w2 ⟨rfl, rfl⟩
      go_wp2
      exact ⟨_, results_tmp rfl _ _ _, _, .no n, rfl, ⟨b, rfl, hf⟩, rfl, S, h.below hb, Turn.of_below hb, fun i hi => .inl hi⟩
    | non =>
      rw [hl] at q
      simp only [Lk.map]
      obtain ⟨hf, hv, _⟩ := look_non hl
      go_enter_defers Tryz.func123, Tryz.ntmps123
      go_wp2_with fail
      refine q.mono ?_
      rintro r w1 ⟨⟨b, rfl, hfl⟩, hb⟩
      have c0 := (hG.keep (hb.mono hB)).c0
      have q2 := is_hit b E w1 hfl.c1
      have q3 := put_fresh A M E L clk rm p false S w w1 hF hO h.wt h.rm hll h.clk0 hk1 (valid_len hv) hb
      go_wp2_with fail
      refine q2.mono ?_
      rintro r w2 ⟨rfl, rfl⟩
      go_wp2_with fail
      refine q3.mono ?_
      rintro r w4 ⟨v, k, rfl, hout⟩
      go_wp2
      exact ⟨_, results_tmp rfl _ _ _, v, k, rfl, hout⟩
    | rt =>
      exfalso
      unfold lookV at hl
      split at hl
      · exact (look_fnd hp0 hl).2.2 rfl
      · cases hl
    | is e =>
      rw [hl] at q
      simp only [Lk.map]
      obtain ⟨hf, hv, _⟩ := look_is hl
      have hm := fnd_mem hf
      have hn := hF.nodes _ hm
      have hd := hO.dat _ hm
      have hk0 := h.clk0
      have fin : ∀ w1 w3, Below w.heap.size w w1 → Turn (fun k => k = A ∨ k = e.blk) w1 w3 → Fb w3 A M (weight (nds L)) (clk + 1) rm → Mp w3 M L → NodeAt w3 (aged e (clk + 1)) → OutAt S A E rm w (.returned .nilIface) w3 (0, put (nds L) p { e.nd with time := clk + 1 }, clk + 1) := fun w1 w3 hb t1 f3 m3 n3 => by
        have ht : Turn (Three A M e.blk) w1 w3 := t1.mono fun i hi => by rcases hi with h | h; exact .inl h; exact .inr (.inr h)
        have hps : put L p e = L := put_same hF.srt hf
        obtain ⟨hF3, hO3⟩ := fs_put (p := p) (hF.below hb) ((hO.below hb).sub fun x hx => (mem_del.1 hx).1) (valid_len hv) (hn.below hb) (hd.kept fun g hg => hb.block g (hd.lt g hg))
          (fun x hx e1 => (mem_del.1 hx).2 (by rw [hO.apB x (mem_del.1 hx).1 _ hm e1])) (fun x hx g hg e1 => (mem_del.1 hx).2 (by rw [hO.apD x (mem_del.1 hx).1 _ hm g hg e1])) f3 (by rw [hps]; exact m3) n3 ht
        have e3 : put (nds L) p { e.nd with time := clk + 1 } = nds (put L p (aged e (clk + 1))) := by rw [nds_put]; rfl
        have e4 : (weight (nds (put L p (aged e (clk + 1)))) : Int) = weight (nds L) := by
          rw [weight_put hF.srt]
          have : wtAt L p = e.nd.wt := by unfold wtAt; rw [hf]
          rw [this]
          have : (aged e (clk + 1)).nd.wt = e.nd.wt := rfl
          rw [this]; omega
        have hlen : (put L p (aged e (clk + 1))).length ≤ 1000 := by
          rw [put_length]
          have := del_length hF.srt p
          rw [hf] at this
          simp only at this
          omega
        refine ⟨.nilIface, .ok, rfl, rfl, rfl, withNode S e, ⟨⟨M, _, by simp only [e3, e4]; exact hF3, hO3, e3.symm⟩, by simp only [e3, e4]; exact hw, hrm, by simp only; omega, by simp only [e3, nds_length]; exact hlen⟩, (Turn.of_below hb).trans t1 fun i hi => .inl (by rcases hi with rfl | rfl; exact hO.sA; exact hO.sB _ hm), fun i hi => .inl ?_⟩
        rcases hi with h1 | h1 | h1
        · exact h1
        · rw [h1]; exact hO.sB _ hm
        · exact hO.sD _ hm i h1
      have HF := hide' fin
      clear fin
      go_enter_defers Tryz.func123, Tryz.ntmps123
      go_wp2_with fail
      refine q.mono ?_
      rintro r w1 ⟨rfl, hb⟩
      have c0 := (hG.keep (hb.mono hB)).c0
      have hb2 : Below w.heap.size w (w1.alloc (.cells #[.pointer (some ⟨e.blk, 0, none⟩)] 59)) := hb.alloc hb.size _
      have cv : (w1.alloc (.cells #[.pointer (some ⟨e.blk, 0, none⟩)] 59)).cell? ⟨w1.heap.size, 0, none⟩ = some (.pointer (some ⟨e.blk, 0, none⟩)) := by simp
      have hF2 := hF.below hb2
      have hA1 : w1.heap.size ≠ A := by have := hF.fb.lt; have := hb.size; omega
      have hn2 := hn.below hb2
      have q9 := fasten_node A M w1.heap.size L (weight (nds L)) clk rm e .returning _ hF2.fb hF2.mp hn2 hk0 hk1 hA1 cv
      have HQ := hide' q9
      clear q9 hF2 hn2
      go_wp2_with fail
      refine (is_nil E _).mono ?_
      rintro r w2 ⟨rfl, rfl⟩
      go_wp2
      refine leaves_cons (f := 107) (args := #[.pointer (some ⟨A, 0, none⟩), .slice (some ⟨w2.heap.size, 0, none⟩) 1 1]) (by simp) (by simp [go_sem]) ?_
      refine HQ.out.mono ?_
      rintro r u' w3 ⟨rfl, rfl, f3, m3, n3, t3⟩
      refine ⟨_, results_tmp rfl _ _ _, ?_⟩
      exact HF.out _ w3 hb2 t3 f3 m3 n3
def renameR (T : Tr) (clk : Int) (p q : Bs) : Out :=
  match fileN (lookN T p) with
  | .bad n => (n, T, clk)
  | .non => (10, T, clk)
  | .rt => (12, T, clk)
  | .is n =>
    match fileN (lookN T q) with
    | .bad m => (m, T, clk)
    | _ => if p = q then (0, T, clk) else (0, put (del T p) q n, clk + 1)
theorem aged_self (e : En) : aged e e.nd.time = e := rfl
theorem file_valid {L : Ents} {p : Bs} (h : ∀ n, fileOf (lookV L p) ≠ .bad n) : valid p = true := by
  cases hl : fileOf (lookV L p) with
  | bad n => exact absurd hl (h n)
  | non => exact (file_non hl).2
  | rt => exact (fileOf_rt hl).elim
  | is e => exact (file_is hl).2.1
theorem str_ne {p q : Bs} (h : p ≠ q) : (p == q) = false := beq_eq_false_iff_ne.2 h
set_option maxRecDepth 100000 in
set_option maxHeartbeats 2000000 in
theorem rename_fs (B A : Nat) (E : Addr) (T : Tr) (clk rm : Int) (p q : Bs) (S : Nat → Prop) (w : World) (h : IsFs w S A T clk rm) (hG : Glo B w E) (hB : B ≤ w.heap.size) (hk1 : clk ≤ 1099511627776000) (hp : p.length ≤ 1000000) (hq : q.length ≤ 1000000) :
    Calls Tryz.prog 121 #[.pointer (some ⟨A, 0, none⟩), .string (mk p), .string (mk q)] w fun r w' => OutAt S A E rm w r w' (renameR T clk p q) := by
  obtain ⟨M, L, hF, hO, rfl⟩ := h.mem
  have q1 := file_any B A M L (weight (nds L)) clk rm p w E hF hG hB hp
  have hll : L.length ≤ 1000 := by have := h.len; rwa [nds_length] at this
  have hw := h.wt
  have hrm := h.rm
  have hk0 := h.clk0
  have hwn : weight (nds L) ≤ 1048576 := by omega
  unfold renameR
  rw [fileV_nd, fileV_nd]
  cases hl : fileOf (lookV L p) with
  | bad n =>
    rw [hl] at q1
    simp only [Lk.map]
    go_enter_defers Tryz.func121, Tryz.ntmps121
    go_wp2_with fail
    refine q1.mono ?_
    rintro r w1 ⟨⟨b, rfl, hf⟩, hb⟩
    go_wp2
    exact ⟨_, results_tmp rfl _ _ _, _, .no n, rfl, ⟨b, rfl, hf⟩, rfl, S, h.below hb, Turn.of_below hb, fun i hi => .inl hi⟩
  | non =>
    rw [hl] at q1
    simp only [Lk.map]
    go_enter_defers Tryz.func121, Tryz.ntmps121
    go_wp2_with fail
    refine q1.mono ?_
    rintro r w1 ⟨⟨b, rfl, hf⟩, hb⟩
    go_wp2
    exact ⟨_, results_tmp rfl _ _ _, _, .nothing, rfl, ⟨b, rfl, hf⟩, rfl, S, h.below hb, Turn.of_below hb, fun i hi => .inl hi⟩
  | rt => exact (fileOf_rt hl).elim
  | is e =>
    rw [hl] at q1
    obtain ⟨hf, hv, hd⟩ := file_is hl
    have hm := fnd_mem hf
    have hn := hF.nodes _ hm
    have hdt := hO.dat _ hm
    simp only [Lk.map]
    have q2 := fun w1 (hb : Below w.heap.size w w1) => fileToBe_any B A M L (weight (nds L)) clk rm q w1 E (hF.below hb) (hG.keep (hb.mono hB)) (Nat.le_trans hB hb.size) hq
    cases hl2 : fileOf (lookV L q) with
    | bad m =>
      rw [hl2] at q2
      simp only
      go_enter_defers Tryz.func121, Tryz.ntmps121
      go_wp2_with fail
      refine q1.mono ?_
      rintro r w1 ⟨rfl, hb⟩
      go_wp2_with fail
      refine (q2 w1 hb).mono ?_
      rintro r w2 ⟨⟨b, rfl, hfl⟩, hb2⟩
      have hb3 := hb.trans (hb2.mono hb.size)
      go_wp2
      exact ⟨_, results_tmp rfl _ _ _, _, .no m, rfl, ⟨b, rfl, hfl⟩, rfl, S, h.below hb3, Turn.of_below hb3, fun i hi => .inl hi⟩
    | rt => exact (fileOf_rt hl2).elim
    | _ =>
      all_goals
        have q3 : ∀ w1, Below w.heap.size w w1 → Calls Tryz.prog 153 #[.pointer (some ⟨A, 0, none⟩), .string (mk q)] w1 fun r w2 => (∃ b, r = .returned (.tuple #[.pointer (some ⟨b, 0, none⟩), .nilIface])) ∧ Below w.heap.size w w2 := fun w1 hb => by
          refine (q2 w1 hb).mono fun r w2 hr => ?_
          obtain ⟨h1, h2⟩ := hr
          rw [hl2] at h1
          first
            | (obtain ⟨b, _, rfl, _⟩ := h1; exact ⟨⟨b, rfl⟩, hb.trans (h2.mono hb.size)⟩)
            | exact ⟨⟨_, h1⟩, hb.trans (h2.mono hb.size)⟩
        have hvq : valid q = true := file_valid fun n hn => by rw [hl2] at hn; cases hn
        clear q2
        simp only
        by_cases hpq : p = q
        · subst hpq
          rw [if_pos rfl]
          go_enter_defers Tryz.func121, Tryz.ntmps121
          go_wp2_with fail
          refine q1.mono ?_
          rintro r w1 ⟨rfl, hb⟩
          go_wp2_with fail
          refine (q3 w1 hb).mono ?_
          rintro r w2 ⟨⟨b, rfl⟩, hb2⟩
          go_wp2
          refine ⟨_, results_tmp rfl _ _ _, ?_⟩
          exact ⟨_, .ok, rfl, rfl, rfl, S, h.below hb2, Turn.of_below hb2, fun i hi => .inl hi⟩
        · rw [if_neg hpq]
          have hsz := data_le hwn
          have hne := str_ne hpq
          have hwd := weight_del hF.srt p
          have hnw : e.nd.wt ≤ 1048577 := by have := hsz _ hm; simp only [Nd.wt]; simp only at this; omega
          have tail : ∀ w2, Below w.heap.size w w2 → Calls Tryz.prog 63 #[.pointer (some ⟨A, 0, none⟩), .string (mk p)] w2 fun r w3 => r = .returned (.tuple #[]) ∧ FsAt w3 A M (del L p) (weight (nds (del L p))) clk rm ∧ Own w3 S A M (del L p) ∧ NodeAt w3 e ∧ Dat w3 e.dv e.nd.data ∧ Turn (Two A M) w2 w3 := fun w2 hb => by
            have q5 := drop_any A M L (weight (nds L)) clk rm p w2 (hF.below hb) (valid_len hv) (by omega) (by omega) (fun x hx => Nat.le_trans (hsz x hx) (by omega))
            refine q5.mono fun r w3 hr => ?_
            obtain ⟨h1, h2, h3, h4⟩ := hr
            rw [← hwd] at h2
            obtain ⟨hF3, hO3⟩ := fs_del (hF.below hb) (hO.below hb) h2 h3 h4
            have hn2 := hn.below hb
            have hd2 : Dat w2 e.dv e.nd.data := hdt.kept fun g hg => hb.block g (hdt.lt g hg)
            refine ⟨h1, hF3, hO3, (h4.block _ hn2.lt (fun hs => by rcases hs with e1 | e1; exact node_ne hn2 (hF.below hb).fb e1; exact node_ne_map hn2 (hF.below hb).mp e1)).trans hn2, hd2.kept fun g hg => h4.block g (hd2.lt g hg) (fun hs => by rcases hs with e1 | e1; exact dat_ne hd2 (hF.below hb).fb g hg e1; exact dat_ne_map hd2 (hF.below hb).mp g hg e1), h4⟩
          have sett : ∀ w3, FsAt w3 A M (del L p) (weight (nds (del L p))) clk rm → NodeAt w3 e → Dat w3 e.dv e.nd.data → Calls Tryz.prog 34 #[.pointer (some ⟨A, 0, none⟩), .string (mk q), .pointer (some ⟨e.blk, 0, none⟩)] w3 fun r w4 => r = .returned (.tuple #[]) ∧ Fb w4 A M (weight (nds (put (del L p) q e))) clk rm ∧ Mp w4 M (put (del L p) q e) ∧ Turn (Two A M) w3 w4 := fun w3 hF3 hn3 hd3 => by
            have q6 := set_any A M (del L p) (weight (nds (del L p))) clk rm q e w3 hF3 (valid_len hvq) (by omega) (by omega) (fun x hx => Nat.le_trans (hsz x (mem_del.1 hx).1) (by omega)) hn3 hd3.rds (by have := hsz _ hm; simp only at this; omega) (Nat.le_trans (del_length_le L p) (by omega))
            rw [weight_put hF3.srt]
            exact q6
          have fin : ∀ w2 w3 w4 w5, Below w.heap.size w w2 → FsAt w3 A M (del L p) (weight (nds (del L p))) clk rm → Own w3 S A M (del L p) → NodeAt w3 e → Dat w3 e.dv e.nd.data → Turn (Two A M) w2 w3 → Turn (Two A M) w3 w4 → Turn (fun k => k = A) w4 w5 → Fb w5 A M (weight (nds (put (del L p) q e))) (clk + 1) rm → Mp w5 M (put (del L p) q e) → OutAt S A E rm w (.returned .nilIface) w5 (0, put (del (nds L) p) q e.nd, clk + 1) := fun w2 w3 w4 w5 hb hF3 hO3 hn3 hd3 t2 t3 t4 f5 m5 => by
            have ht : Turn (Two A M) w3 w5 := t3.trans t4 fun i hi => .inl (.inl hi)
            have hn5 : NodeAt w5 e := (ht.block _ hn3.lt (fun hs => by rcases hs with e1 | e1; exact node_ne hn3 hF3.fb e1; exact node_ne_map hn3 hF3.mp e1)).trans hn3
            have memL : ∀ x ∈ del (del L p) q, x ∈ L ∧ x.1 ≠ p := fun x hx => mem_del.1 (mem_del.1 hx).1
            obtain ⟨hF5, hO5⟩ := fs_put (p := q) (t := e.nd.time) hF3 (hO3.sub fun x hx => (mem_del.1 hx).1) (valid_len hvq) hn3 hd3
              (fun x hx e1 => (memL x hx).2 (by rw [hO.apB x (memL x hx).1 _ hm e1])) (fun x hx g hg e1 => (memL x hx).2 (by rw [hO.apD x (memL x hx).1 _ hm g hg e1])) f5 m5 hn5 (ht.mono fun i hi => by rcases hi with h | h; exact .inl h; exact .inr (.inl h))
            rw [aged_self] at hF5 hO5
            have e3 : put (del (nds L) p) q e.nd = nds (put (del L p) q e) := by rw [nds_put, nds_del]
            have hwp := weight_put hF3.srt q e
            have hwa : wtAt L p = e.nd.wt := by unfold wtAt; rw [hf]
            have hlen : (put (del L p) q e).length ≤ 1000 := by
              rw [put_length]
              have h1 := del_length_le (del L p) q
              have h2 := del_length hF.srt p
              rw [hf] at h2
              simp only at h2
              omega
            refine ⟨.nilIface, .ok, rfl, rfl, rfl, withNode S e, ⟨⟨M, _, by simp only [e3]; exact hF5, hO5, e3.symm⟩, by simp only [e3]; omega, hrm, by simp only; omega, by simp only [e3, nds_length]; exact hlen⟩, ?_, fun i hi => .inl ?_⟩
            · have h1 : Turn S w2 w5 := (t2.trans' ht).mono fun i hi => by rcases hi with rfl | rfl; exact hO.sA; exact hO.sM
              exact (Turn.of_below (S := S) hb).trans' h1
            · rcases hi with h1 | h1 | h1
              · exact h1
              · rw [h1]; exact hO.sB _ hm
              · exact hO.sD _ hm i h1
          have HT := hide' tail
          have HS := hide' sett
          have HF := hide' fin
          clear tail sett fin hsz hnw hwd
          go_enter_defers Tryz.func121, Tryz.ntmps121
          go_wp2_with fail
          refine q1.mono ?_
          rintro r w1 ⟨rfl, hb⟩
          go_wp2_with fail
          refine (q3 w1 hb).mono ?_
          rintro r w2 ⟨⟨b, rfl⟩, hb2⟩
          go_wp2_with fail
          refine (HT.out w2 hb2).mono ?_
          rintro r w3 ⟨rfl, hF3, hO3, hn3, hd3, t2⟩
          go_wp2_with fail
          refine (HS.out w3 hF3 hn3 hd3).mono ?_
          rintro r w4 ⟨rfl, f4, m4, t3⟩
          go_wp2
          refine leaves_cons (f := 107) (args := #[.pointer (some ⟨A, 0, none⟩), .slice none 0 0]) (by simp) (by simp [go_sem]) ?_
          refine (fasten_clock A M (put (del L p) q e) _ clk rm .returning w4 f4 m4 hk0 hk1).mono ?_
          rintro r u' w5 ⟨rfl, rfl, f5, m5, t4⟩
          refine ⟨_, results_tmp rfl _ _ _, ?_⟩
          exact HF.out w2 w3 w4 w5 hb2 hF3 hO3 hn3 hd3 t2 t3 t4 f5 m5
end Go.Proofs.YtbfchadcpokjoaaGreatDoor
namespace Go.Proofs.YtbfchadcpokjoaaGreatDoor
open Go.RowKit Go.Maps

/-- behind a call: an error's number, and a file system -/
def NumAt (S : Nat → Prop) (A : Nat) (rm : Int) (w : World) (r : Ending) (w' : World) (o : Out) : Prop :=
  r = .returned (.int .i64 (o.1 : Nat)) ∧ ∃ S', IsFs w' S' A o.2.1 o.2.2 rm ∧ Turn S w w' ∧ ∀ i, S' i → S i ∨ w.heap.size ≤ i
theorem orEmpty_some (A : Nat) (w : World) : Calls Tryz.prog 21 #[.pointer (some ⟨A, 0, none⟩)] w fun r w' => r = .returned (.pointer (some ⟨A, 0, none⟩)) ∧ w' = w := by
  have hn : ∀ w : World, (binOp .eql 36 (.pointer (some ⟨A, 0, none⟩)) (.pointer none)).run Tryz.prog w = .ok (.bool false) w := fun w => by kernel_rfl
  go_enter Tryz.func21, Tryz.ntmps21
  go_wp2
  go_ret
  exact ⟨rfl, rfl⟩
theorem cln_len (s : ByteArray) (hs : s.size ≤ 400000) : (clean (tl s)).length ≤ 1000000 := by have := clean_len (tl s); rw [tl_len] at this; omega
/-- an error and its number -/
theorem num_of (B A : Nat) (E : Addr) {S : Nat → Prop} {rm : Int} {w w1 w2 : World} {v : Value} {k : Er} {o : Out} (hG : Glo B w E) (hB : B ≤ w.heap.size) (hS : ∀ i, S i → B ≤ i) (hb : Below w.heap.size w w1) (hv : IsErr w2 E v k) (hk : k.num = o.1)
    (h : ∃ S', IsFs w2 S' A o.2.1 o.2.2 rm ∧ Turn S w1 w2 ∧ ∀ i, S' i → S i ∨ w1.heap.size ≤ i) : Calls Tryz.prog 20 #[v] w2 fun r w' => NumAt S A rm w r w' o := by
  obtain ⟨S', h1, h2, h3⟩ := h
  have hT : Turn S w w2 := (Turn.of_below (S := S) hb).trans' h2
  refine (number_any B E v k w2 (hG.keep (hT.below hB hS)) hv).mono fun r w' hr => ?_
  obtain ⟨rfl, hb2⟩ := hr
  refine ⟨by rw [hk], S', h1.below hb2, hT.trans (Turn.of_below (S := S) hb2) fun i hi => .inl hi, fun i hi => ?_⟩
  rcases h3 i hi with h | h
  · exact .inl h
  · exact .inr (Nat.le_trans hb.size h)

set_option maxHeartbeats 1000000 in
theorem Write_any (B A : Nat) (E : Addr) (T : Tr) (clk rm : Int) (s : ByteArray) (bs : Bs) (bv : Value) (add : Bool) (S : Nat → Prop) (w : World) (h : IsFs w S A T clk rm) (hG : Glo B w E) (hB : B ≤ w.heap.size) (hS : ∀ i, S i → B ≤ i) (hk1 : clk ≤ 1099511627776000) (hs : s.size ≤ 400000) (hbv : Rds w bv bs) (hbl : bs.length ≤ 1000000) :
    Calls Tryz.prog 120 #[.pointer (some ⟨A, 0, none⟩), .string s, bv, .bool add] w fun r w' => NumAt S A rm w r w' (writeR T clk rm (clean (tl s)) bs add) := by
  have q1 := clean_any s (by omega) w
  have q2 := fun w1 (hb : Below w.heap.size w w1) => write_fs B A E T clk rm (clean (tl s)) bs bv add S w1 (h.below hb) (hG.keep (hb.mono hB)) (Nat.le_trans hB hb.size) hk1 (cln_len s hs) (hbv.below hb) hbl
  generalize writeR T clk rm (clean (tl s)) bs add = o at q2
  generalize clean (tl s) = c at q1 q2
  obtain ⟨ba, bc, hbe⟩ := hbv.len
  generalize bs.length = n at hbe
  clear hbv
  subst hbe
  go_enter Tryz.func120, Tryz.ntmps120
  go_wp2_with fail
  refine (orEmpty_some A _).mono ?_
  rintro r w0 ⟨rfl, rfl⟩
  go_wp2_with fail
  refine q1.mono ?_
  rintro r w1 ⟨rfl, hb⟩
  go_wp2_with fail
  refine (q2 w1 hb).mono ?_
  rintro r w2 ⟨v, k, rfl, hv, hk, ho⟩
  go_wp2_with fail
  refine (num_of B A E hG hB hS hb hv hk ho).mono ?_
  rintro r w3 ⟨rfl, h3⟩
  go_wp2
  go_ret
  exact ⟨rfl, h3⟩
set_option maxHeartbeats 1000000 in
theorem Mkdir_any (B A : Nat) (E : Addr) (T : Tr) (clk rm : Int) (s : ByteArray) (S : Nat → Prop) (w : World) (h : IsFs w S A T clk rm) (hG : Glo B w E) (hB : B ≤ w.heap.size) (hS : ∀ i, S i → B ≤ i) (hk1 : clk ≤ 1099511627776000) (hs : s.size ≤ 400000) :
    Calls Tryz.prog 17 #[.pointer (some ⟨A, 0, none⟩), .string s] w fun r w' => NumAt S A rm w r w' (mkdirR T clk rm (clean (tl s))) := by
  have q1 := clean_any s (by omega) w
  have q2 := fun w1 (hb : Below w.heap.size w w1) => mkdir_fs B A E T clk rm (clean (tl s)) S w1 (h.below hb) (hG.keep (hb.mono hB)) (Nat.le_trans hB hb.size) hk1 (cln_len s hs)
  generalize mkdirR T clk rm (clean (tl s)) = o at q2
  generalize clean (tl s) = c at q1 q2
  go_enter Tryz.func17, Tryz.ntmps17
  go_wp2_with fail
  refine (orEmpty_some A _).mono ?_
  rintro r w0 ⟨rfl, rfl⟩
  go_wp2_with fail
  refine q1.mono ?_
  rintro r w1 ⟨rfl, hb⟩
  go_wp2_with fail
  refine (q2 w1 hb).mono ?_
  rintro r w2 ⟨v, k, rfl, hv, hk, ho⟩
  go_wp2_with fail
  refine (num_of B A E hG hB hS hb hv hk ho).mono ?_
  rintro r w3 ⟨rfl, h3⟩
  go_wp2
  go_ret
  exact ⟨rfl, h3⟩
set_option maxHeartbeats 1000000 in
theorem Remove_any (B A : Nat) (E : Addr) (T : Tr) (clk rm : Int) (s : ByteArray) (S : Nat → Prop) (w : World) (h : IsFs w S A T clk rm) (hG : Glo B w E) (hB : B ≤ w.heap.size) (hS : ∀ i, S i → B ≤ i) (hk1 : clk ≤ 1099511627776000) (hs : s.size ≤ 400000) :
    Calls Tryz.prog 92 #[.pointer (some ⟨A, 0, none⟩), .string s] w fun r w' => NumAt S A rm w r w' (removeR T clk (clean (tl s))) := by
  have q1 := clean_any s (by omega) w
  have q2 := fun w1 (hb : Below w.heap.size w w1) => remove_fs B A E T clk rm (clean (tl s)) S w1 (h.below hb) (hG.keep (hb.mono hB)) (Nat.le_trans hB hb.size) hk1 (cln_len s hs)
  generalize removeR T clk (clean (tl s)) = o at q2
  generalize clean (tl s) = c at q1 q2
  go_enter Tryz.func92, Tryz.ntmps92
  go_wp2_with fail
  refine (orEmpty_some A _).mono ?_
  rintro r w0 ⟨rfl, rfl⟩
  go_wp2_with fail
  refine q1.mono ?_
  rintro r w1 ⟨rfl, hb⟩
  go_wp2_with fail
  refine (q2 w1 hb).mono ?_
  rintro r w2 ⟨v, k, rfl, hv, hk, ho⟩
  go_wp2_with fail
  refine (num_of B A E hG hB hS hb hv hk ho).mono ?_
  rintro r w3 ⟨rfl, h3⟩
  go_wp2
  go_ret
  exact ⟨rfl, h3⟩
set_option maxHeartbeats 1000000 in
theorem Touch_any (B A : Nat) (E : Addr) (T : Tr) (clk rm : Int) (s : ByteArray) (S : Nat → Prop) (w : World) (h : IsFs w S A T clk rm) (hG : Glo B w E) (hB : B ≤ w.heap.size) (hS : ∀ i, S i → B ≤ i) (hk1 : clk ≤ 1099511627776000) (hs : s.size ≤ 400000) :
    Calls Tryz.prog 95 #[.pointer (some ⟨A, 0, none⟩), .string s] w fun r w' => NumAt S A rm w r w' (touchR T clk rm (clean (tl s))) := by
  have q1 := clean_any s (by omega) w
  have q2 := fun w1 (hb : Below w.heap.size w w1) => touch_fs B A E T clk rm (clean (tl s)) S w1 (h.below hb) (hG.keep (hb.mono hB)) (Nat.le_trans hB hb.size) hk1 (cln_len s hs)
  generalize touchR T clk rm (clean (tl s)) = o at q2
  generalize clean (tl s) = c at q1 q2
  go_enter Tryz.func95, Tryz.ntmps95
  go_wp2_with fail
  refine (orEmpty_some A _).mono ?_
  rintro r w0 ⟨rfl, rfl⟩
  go_wp2_with fail
  refine q1.mono ?_
  rintro r w1 ⟨rfl, hb⟩
  go_wp2_with fail
  refine (q2 w1 hb).mono ?_
  rintro r w2 ⟨v, k, rfl, hv, hk, ho⟩
  go_wp2_with fail
  refine (num_of B A E hG hB hS hb hv hk ho).mono ?_
  rintro r w3 ⟨rfl, h3⟩
  go_wp2
  go_ret
  exact ⟨rfl, h3⟩
set_option maxHeartbeats 1000000 in
theorem Rename_any (B A : Nat) (E : Addr) (T : Tr) (clk rm : Int) (s t : ByteArray) (S : Nat → Prop) (w : World) (h : IsFs w S A T clk rm) (hG : Glo B w E) (hB : B ≤ w.heap.size) (hS : ∀ i, S i → B ≤ i) (hk1 : clk ≤ 1099511627776000) (hs : s.size ≤ 400000) (ht : t.size ≤ 400000) :
    Calls Tryz.prog 90 #[.pointer (some ⟨A, 0, none⟩), .string s, .string t] w fun r w' => NumAt S A rm w r w' (renameR T clk (clean (tl s)) (clean (tl t))) := by
  have q1 := clean_any s (by omega) w
  have q1' := clean_any t (by omega)
  have q2 := fun w1 (hb : Below w.heap.size w w1) => rename_fs B A E T clk rm (clean (tl s)) (clean (tl t)) S w1 (h.below hb) (hG.keep (hb.mono hB)) (Nat.le_trans hB hb.size) hk1 (cln_len s hs) (cln_len t ht)
  generalize renameR T clk (clean (tl s)) (clean (tl t)) = o at q2
  generalize clean (tl s) = c at q1 q2
  generalize clean (tl t) = d at q1' q2
  go_enter Tryz.func90, Tryz.ntmps90
  go_wp2_with fail
  refine (orEmpty_some A _).mono ?_
  rintro r w0 ⟨rfl, rfl⟩
  go_wp2_with fail
  refine q1.mono ?_
  rintro r w1 ⟨rfl, hb1⟩
  go_wp2_with fail
  refine (q1' w1).mono ?_
  rintro r w1' ⟨rfl, hb2⟩
  have hb := hb1.trans (hb2.mono hb1.size)
  go_wp2_with fail
  refine (q2 w1' hb).mono ?_
  rintro r w2 ⟨v, k, rfl, hv, hk, ho⟩
  go_wp2_with fail
  refine (num_of B A E hG hB hS hb hv hk ho).mono ?_
  rintro r w3 ⟨rfl, h3⟩
  go_wp2
  go_ret
  exact ⟨rfl, h3⟩

/-- kind, time, size -/
def statR (T : Tr) (p : Bs) : Int × Int × Int :=
  match lookN T p with
  | .bad _ => (0, 0, 0)
  | .non => (0, 0, 0)
  | .rt => (2, 0, 0)
  | .is n => if n.dir then (2, n.time, 0) else (1, n.time, n.data.length)
def statV (x : Int × Int × Int) : Value := .agg #[.int .i64 x.1, .int .i64 x.2.1, .int .i64 x.2.2]
theorem res27 (tmps : Array Value) (b : Nat) (x y z : Value) (W : World) (h4 : tmps.getD 4 undef = .pointer (some ⟨b, 0, none⟩)) (hb : W.heap[b]? = some (.cells #[x, y, z] 44 (0, 0))) : (results Tryz.f14 tmps).run Tryz.prog W = .ok (.agg #[x, y, z]) W := by
  simp only [Array.getD_eq_getD_getElem?] at h4
  have c0 : W.cell? ⟨b, 0, none⟩ = some x := by rw [Lib.cell_of_heap hb]; rfl
  have c1 : W.cell? ⟨b, 1, none⟩ = some y := by rw [Lib.cell_of_heap hb]; rfl
  have c2 : W.cell? ⟨b, 2, none⟩ = some z := by rw [Lib.cell_of_heap hb]; rfl
  simp [results, Tryz.results14, go_sem, h4, c0, c1, c2]
theorem stat_end {w w2 : World} {x y z : Value} (hB : Below w.heap.size w w2) (hz : w2.heap[w.heap.size]? = some (.cells #[.int .i64 0, .int .i64 0, .int .i64 0] 44 (0, 0))) :
    (((w2.setCell ⟨w.heap.size, 0, none⟩ x).setCell ⟨w.heap.size, 1, none⟩ y).setCell ⟨w.heap.size, 2, none⟩ z).heap[w.heap.size]? = some (.cells #[x, y, z] 44 (0, 0)) ∧ Below w.heap.size w (((w2.setCell ⟨w.heap.size, 0, none⟩ x).setCell ⟨w.heap.size, 1, none⟩ y).setCell ⟨w.heap.size, 2, none⟩ z) :=
  ⟨set_row (set_row (set_row hz 0 x) 1 y) 2 z, ((hB.setCell (p := ⟨w.heap.size, 0, none⟩) (Nat.le_refl _) _).setCell (p := ⟨w.heap.size, 1, none⟩) (Nat.le_refl _) _).setCell (p := ⟨w.heap.size, 2, none⟩) (Nat.le_refl _) _⟩
set_option maxRecDepth 100000 in
set_option maxHeartbeats 2000000 in
theorem Stat_any (B A : Nat) (E : Addr) (T : Tr) (clk rm : Int) (s : ByteArray) (S : Nat → Prop) (w : World) (h : IsFs w S A T clk rm) (hG : Glo B w E) (hB : B ≤ w.heap.size) (hs : s.size ≤ 400000) :
    Calls Tryz.prog 14 #[.pointer (some ⟨A, 0, none⟩), .string s] w fun r w' => r = .returned (statV (statR T (clean (tl s)))) ∧ Below w.heap.size w w' := by
  obtain ⟨M, L, hF, hO, rfl⟩ := h.mem
  have hb0 : Below w.heap.size w (w.alloc (.cells #[.int .i64 0, .int .i64 0, .int .i64 0] 44)) := (Below.refl _ _).alloc (Nat.le_refl _) _
  have q1 := clean_any s (by omega)
  have q2 := fun w1 (hb : Below w.heap.size w w1) => look_any B A M L (weight (nds L)) clk rm (clean (tl s)) w1 E (hF.below hb) (hG.keep (hb.mono hB)) (Nat.le_trans hB hb.size) (cln_len s hs)
  unfold statR
  rw [lookV_nd]
  have hz : ∀ w1, Below (w.heap.size + 1) (w.alloc (.cells #[.int .i64 0, .int .i64 0, .int .i64 0] 44)) w1 → w1.heap[w.heap.size]? = some (.cells #[.int .i64 0, .int .i64 0, .int .i64 0] 44 (0, 0)) := fun w1 hb => (hb.block _ (by omega)).trans (World.alloc_heap_new w _)
  have hsz : (w.alloc (.cells #[.int .i64 0, .int .i64 0, .int .i64 0] 44)).heap.size = w.heap.size + 1 := by simp
  have HZ := hide' hz
  have Hb0 := hide' hb0
  clear hz hb0
  generalize clean (tl s) = c at q1 q2
  cases hl : lookV L c with
  | bad n =>
    rw [hl] at q2
    simp only [Lk.map]
    go_enter Tryz.func14, Tryz.ntmps14
    go_wp2_with fail
    refine (orEmpty_some A _).mono ?_
    rintro r w0 ⟨rfl, rfl⟩
    go_wp2_with fail
    refine (q1 _).mono ?_
    rintro r w1 ⟨rfl, hb1⟩
    have hB1 : Below w.heap.size w w1 := Hb0.out.trans (hb1.mono (by simp))
    go_wp2_with fail
    refine (q2 w1 hB1).mono ?_
    rintro r w2 ⟨⟨b, rfl, hf⟩, hb2⟩
    have hB2 : Below w.heap.size w w2 := hB1.trans (hb2.mono hB1.size)
    rw [hsz] at hb1
    have hzz := HZ.out w2 (hb1.trans (hb2.mono (by have := hb1.size; rw [hsz] at this; exact this)))
    have z0 : w2.cell? ⟨w.heap.size, 0, none⟩ = some (.int .i64 0) := by rw [Lib.cell_of_heap hzz]; rfl
    have z1 : w2.cell? ⟨w.heap.size, 1, none⟩ = some (.int .i64 0) := by rw [Lib.cell_of_heap hzz]; rfl
    have z2 : w2.cell? ⟨w.heap.size, 2, none⟩ = some (.int .i64 0) := by rw [Lib.cell_of_heap hzz]; rfl
    have f0 := Lib.frozen_of_heap hzz 0
    have f1 := Lib.frozen_of_heap hzz 1
    have f2 := Lib.frozen_of_heap hzz 2
    have hend := fun x y z => stat_end (x := x) (y := y) (z := z) hB2 hzz
    clear hzz
    go_wp2
    refine bodyPost_ret (res27 _ _ _ _ _ _ rfl (hend _ _ _).1) rfl ?_
    exact ⟨rfl, (hend _ _ _).2⟩
  | non =>
    rw [hl] at q2
    simp only [Lk.map]
    go_enter Tryz.func14, Tryz.ntmps14
    go_wp2_with fail
    refine (orEmpty_some A _).mono ?_
    rintro r w0 ⟨rfl, rfl⟩
    go_wp2_with fail
    refine (q1 _).mono ?_
    rintro r w1 ⟨rfl, hb1⟩
    have hB1 : Below w.heap.size w w1 := Hb0.out.trans (hb1.mono (by simp))
    go_wp2_with fail
    refine (q2 w1 hB1).mono ?_
    rintro r w2 ⟨⟨b, rfl, hf⟩, hb2⟩
    have hB2 : Below w.heap.size w w2 := hB1.trans (hb2.mono hB1.size)
    rw [hsz] at hb1
    have hzz := HZ.out w2 (hb1.trans (hb2.mono (by have := hb1.size; rw [hsz] at this; exact this)))
    have z0 : w2.cell? ⟨w.heap.size, 0, none⟩ = some (.int .i64 0) := by rw [Lib.cell_of_heap hzz]; rfl
    have z1 : w2.cell? ⟨w.heap.size, 1, none⟩ = some (.int .i64 0) := by rw [Lib.cell_of_heap hzz]; rfl
    have z2 : w2.cell? ⟨w.heap.size, 2, none⟩ = some (.int .i64 0) := by rw [Lib.cell_of_heap hzz]; rfl
    have f0 := Lib.frozen_of_heap hzz 0
    have f1 := Lib.frozen_of_heap hzz 1
    have f2 := Lib.frozen_of_heap hzz 2
    have hend := fun x y z => stat_end (x := x) (y := y) (z := z) hB2 hzz
    clear hzz
    go_wp2
    refine bodyPost_ret (res27 _ _ _ _ _ _ rfl (hend _ _ _).1) rfl ?_
    exact ⟨rfl, (hend _ _ _).2⟩
  | rt =>
    rw [hl] at q2
    simp only [Lk.map]
    go_enter Tryz.func14, Tryz.ntmps14
    go_wp2_with fail
    refine (orEmpty_some A _).mono ?_
    rintro r w0 ⟨rfl, rfl⟩
    go_wp2_with fail
    refine (q1 _).mono ?_
    rintro r w1 ⟨rfl, hb1⟩
    have hB1 : Below w.heap.size w w1 := Hb0.out.trans (hb1.mono (by simp))
    go_wp2_with fail
    refine (q2 w1 hB1).mono ?_
    rintro r w2 ⟨⟨b, hbN, rfl, hn⟩, hb2⟩
    have hB2 : Below w.heap.size w w2 := hB1.trans (hb2.mono hB1.size)
    rw [hsz] at hb1
    have hzz := HZ.out w2 (hb1.trans (hb2.mono (by have := hb1.size; rw [hsz] at this; exact this)))
    have z0 : w2.cell? ⟨w.heap.size, 0, none⟩ = some (.int .i64 0) := by rw [Lib.cell_of_heap hzz]; rfl
    have z1 : w2.cell? ⟨w.heap.size, 1, none⟩ = some (.int .i64 0) := by rw [Lib.cell_of_heap hzz]; rfl
    have z2 : w2.cell? ⟨w.heap.size, 2, none⟩ = some (.int .i64 0) := by rw [Lib.cell_of_heap hzz]; rfl
    have f0 := Lib.frozen_of_heap hzz 0
    have f1 := Lib.frozen_of_heap hzz 1
    have f2 := Lib.frozen_of_heap hzz 2
    have hend := fun x y z => stat_end (x := x) (y := y) (z := z) hB2 hzz
    clear hzz
    have c0 : w2.cell? ⟨b, 0, none⟩ = some (.bool true) := hn.c0
    have c1 : w2.cell? ⟨b, 1, none⟩ = some (.int .i64 0) := hn.c1
    go_wp2
    refine bodyPost_ret (res27 _ _ _ _ _ _ rfl (hend _ _ _).1) rfl ?_
    exact ⟨rfl, (hend _ _ _).2⟩
  | is e =>
    rw [hl] at q2
    simp only [Lk.map]
    obtain ⟨k, hm⟩ := lookV_mem hl
    have hn : NodeAt w e := hF.nodes _ hm
    obtain ⟨da, dc, hdv⟩ := (hO.dat _ hm).len
    simp only at hdv
    cases hd : e.nd.dir with
    | true =>
      simp only [if_true]
      go_enter Tryz.func14, Tryz.ntmps14
      go_wp2_with fail
      refine (orEmpty_some A _).mono ?_
      rintro r w0 ⟨rfl, rfl⟩
      go_wp2_with fail
      refine (q1 _).mono ?_
      rintro r w1 ⟨rfl, hb1⟩
      have hB1 : Below w.heap.size w w1 := Hb0.out.trans (hb1.mono (by simp))
      go_wp2_with fail
      refine (q2 w1 hB1).mono ?_
      rintro r w2 ⟨rfl, hb2⟩
      have hB2 : Below w.heap.size w w2 := hB1.trans (hb2.mono hB1.size)
      rw [hsz] at hb1
      have hzz := HZ.out w2 (hb1.trans (hb2.mono (by have := hb1.size; rw [hsz] at this; exact this)))
      have z0 : w2.cell? ⟨w.heap.size, 0, none⟩ = some (.int .i64 0) := by rw [Lib.cell_of_heap hzz]; rfl
      have z1 : w2.cell? ⟨w.heap.size, 1, none⟩ = some (.int .i64 0) := by rw [Lib.cell_of_heap hzz]; rfl
      have z2 : w2.cell? ⟨w.heap.size, 2, none⟩ = some (.int .i64 0) := by rw [Lib.cell_of_heap hzz]; rfl
      have f0 := Lib.frozen_of_heap hzz 0
      have f1 := Lib.frozen_of_heap hzz 1
      have f2 := Lib.frozen_of_heap hzz 2
      have hend := fun x y z => stat_end (x := x) (y := y) (z := z) hB2 hzz
      clear hzz
      have hn2 := hn.below hB2
      have c0 := hn2.c0
      have c1 := hn2.c1
      have c2 := hn2.c2
      rw [hd] at c0
      rw [hdv] at c2
      clear hn2
      go_wp2
      refine bodyPost_ret (res27 _ _ _ _ _ _ rfl (hend _ _ _).1) rfl ?_
      exact ⟨rfl, (hend _ _ _).2⟩
    | false =>
      simp only [Bool.false_eq_true, if_false]
      go_enter Tryz.func14, Tryz.ntmps14
      go_wp2_with fail
      refine (orEmpty_some A _).mono ?_
      rintro r w0 ⟨rfl, rfl⟩
      go_wp2_with fail
      refine (q1 _).mono ?_
      rintro r w1 ⟨rfl, hb1⟩
      have hB1 : Below w.heap.size w w1 := Hb0.out.trans (hb1.mono (by simp))
      go_wp2_with fail
      refine (q2 w1 hB1).mono ?_
      rintro r w2 ⟨rfl, hb2⟩
      have hB2 : Below w.heap.size w w2 := hB1.trans (hb2.mono hB1.size)
      rw [hsz] at hb1
      have hzz := HZ.out w2 (hb1.trans (hb2.mono (by have := hb1.size; rw [hsz] at this; exact this)))
      have z0 : w2.cell? ⟨w.heap.size, 0, none⟩ = some (.int .i64 0) := by rw [Lib.cell_of_heap hzz]; rfl
      have z1 : w2.cell? ⟨w.heap.size, 1, none⟩ = some (.int .i64 0) := by rw [Lib.cell_of_heap hzz]; rfl
      have z2 : w2.cell? ⟨w.heap.size, 2, none⟩ = some (.int .i64 0) := by rw [Lib.cell_of_heap hzz]; rfl
      have f0 := Lib.frozen_of_heap hzz 0
      have f1 := Lib.frozen_of_heap hzz 1
      have f2 := Lib.frozen_of_heap hzz 2
      have hend := fun x y z => stat_end (x := x) (y := y) (z := z) hB2 hzz
      clear hzz
      have hn2 := hn.below hB2
      have c0 := hn2.c0
      have c1 := hn2.c1
      have c2 := hn2.c2
      rw [hd] at c0
      rw [hdv] at c2
      clear hn2
      have hze : e.blk ≠ w.heap.size := by have := hn.lt; omega
      go_wp2
      go_region
      all_goals go_wp2
      all_goals
        refine bodyPost_ret (res27 _ _ _ _ _ (World.drew _) rfl (hend _ _ _).1) rfl ?_
        exact ⟨rfl, (hend _ _ _).2.drew⟩
end Go.Proofs.YtbfchadcpokjoaaGreatDoor
