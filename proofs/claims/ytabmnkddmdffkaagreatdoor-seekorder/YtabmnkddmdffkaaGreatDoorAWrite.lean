/- The contract of (*FS).write. -/
import Derived.Test.YtabmnkddmdffkaaGreatDoorAOps
namespace Go.Proofs.YtabmnkddmdffkaaGreatDoor
open Go.RowKit Go.Maps

/-- bytes are put behind a file's own -/
theorem fs_append {w w2 : World} {S : Nat → Prop} {A M : Nat} {L : Ents} {wt clk rm : Int} {p : Bs} {x : En} (h : FsAt w A M L wt clk rm) (o : Own w S A M L) (hd : Dat w x.dv x.nd.data) (hd2 : Dat w2 x.dv x.nd.data) (hg : w.grownBy w2 x.dv.ownBlock)
    (hfd : ∀ y ∈ del L p, ∀ g, y.2.dv.ownBlock = some g → x.dv.ownBlock ≠ some g) (hsame : ∀ y ∈ L, y.1 = p → y.2 = x) : FsAt w2 A M L wt clk rm ∧ Own w2 S A M L := by
  have hneA : some A ≠ x.dv.ownBlock := fun e => dat_ne hd h.fb A e.symm rfl
  have hneM : some M ≠ x.dv.ownBlock := fun e => dat_ne_map hd h.mp M e.symm rfl
  have hdat : ∀ y ∈ L, Dat w2 y.2.dv y.2.nd.data := by
    intro y hy
    by_cases hp : y.1 = p
    · rw [hsame y hy hp]; exact hd2
    · refine (o.dat y hy).kept fun g hgy => hg.block g ((o.dat y hy).lt g hgy) (fun e => hfd y (mem_del.2 ⟨hy, hp⟩) g hgy e.symm)
  refine ⟨⟨h.fb.kept (hg.block A h.fb.lt hneA), h.mp.kept (hg.block M h.mp.lt hneM), fun y hy => (hg.block _ (h.nodes y hy).lt (fun e => dat_ne_node hd (h.nodes y hy) _ e.symm rfl)).trans (h.nodes y hy), fun y hy => (hdat y hy).rds, h.srt, h.keys⟩, ⟨o.sA, o.sM, o.sB, o.sD, hdat, o.apB, o.apD⟩⟩

theorem outAt_of {S S1 : Nat → Prop} {A : Nat} {E : Addr} {rm : Int} {w w1 : World} {r : Ending} {w' : World} {o : Out} (hb : Below w.heap.size w w1) (hS : ∀ i, S1 i → S i ∨ w.heap.size ≤ i) (h : OutAt S1 A E rm w1 r w' o) : OutAt S A E rm w r w' o := by
  obtain ⟨v, k, h1, h2, h3, S', h4, h5, h6⟩ := h
  refine ⟨v, k, h1, h2, h3, S', h4, (Turn.of_below hb).trans h5 hS, fun i hi => ?_⟩
  rcases h6 i hi with h7 | h7
  · exact hS i h7
  · exact .inr (Nat.le_trans hb.size h7)
theorem outAt_of' {S S1 : Nat → Prop} {A : Nat} {E : Addr} {rm : Int} {w w1 : World} {r : Ending} {w' : World} {o : Out} (hb : Turn S w w1) (hS : ∀ i, S1 i → S i ∨ w.heap.size ≤ i) (h : OutAt S1 A E rm w1 r w' o) : OutAt S A E rm w r w' o := by
  obtain ⟨v, k, h1, h2, h3, S', h4, h5, h6⟩ := h
  refine ⟨v, k, h1, h2, h3, S', h4, hb.trans h5 hS, fun i hi => ?_⟩
  rcases h6 i hi with h7 | h7
  · exact hS i h7
  · exact .inr (Nat.le_trans hb.size h7)
/-- behind the look for the file -/
def Found (S : Nat → Prop) (L : Ents) (p d : Bs) (w1 : World) (x : En) : Prop :=
  NodeAt w1 x ∧ Dat w1 x.dv x.nd.data ∧ x.nd.data = d ∧ (∀ y ∈ del L p, ∀ g, y.2.dv.ownBlock = some g → x.dv.ownBlock ≠ some g) ∧ (∀ g, x.dv.ownBlock = some g → S g) ∧ (∀ y ∈ L, y.1 = p → y.2 = x)
set_option maxHeartbeats 2000000 in
theorem write_go (A M : Nat) (E : Addr) (L : Ents) (clk rm : Int) (p d bs : Bs) (bv : Value) (add : Bool) (S : Nat → Prop) (w : World) (h : FsAt w A M L (weight (nds L)) clk rm) (o : Own w S A M L) (hw : (weight (nds L) : Int) ≤ rm) (hrm : rm ≤ 1048576) (hll : L.length ≤ 1000) (hk0 : 0 ≤ clk) (hk1 : clk ≤ 1099511627776000) (hp : p.length ≤ 1000)
    (hbv : Rds w bv bs) (hbl : bs.length ≤ 1000000) (hdl : d.length ≤ 1048576)
    (hq : Calls Tryz.prog 76 #[.pointer (some ⟨A, 0, none⟩), .string (mk p)] w fun r w1 => (∃ x, r = .returned (.tuple #[.pointer (some ⟨x.blk, 0, none⟩), .nilIface]) ∧ Found S L p d w1 x) ∧ Below w.heap.size w w1) :
    Calls Tryz.prog 47 #[.pointer (some ⟨A, 0, none⟩), .string (mk p), bv, .bool add] w fun r w' => OutAt S A E rm w r w' (if 65536 < (if add then d else []).length + bs.length then (2, nds L, clk) else putR (nds L) clk rm p ⟨false, 0, (if add then d else []) ++ bs⟩) := by
  obtain ⟨ba, bc, hbe⟩ := hbv.len
  have hneq : ∀ w : World, (binOp .neq 62 .nilIface .nilIface).run Tryz.prog w = .ok (.bool false) w := fun w => by kernel_rfl
  cases add with
  | false =>
    simp only [Bool.false_eq_true, if_false, List.length_nil, Nat.zero_add, List.nil_append]
    by_cases hlen : 65536 < bs.length
    · rw [if_pos hlen]
      have k1 : (65536 : Int) < (bs.length : Int) := by omega
      subst hbe
      go_enter Tryz.func47, Tryz.ntmps47
      go_wp2_with fail
      refine hq.mono ?_
      rintro r w1 ⟨⟨x, rfl, hx⟩, hb⟩
      go_wp2
      go_ret
      exact ⟨_, .no 2, rfl, ⟨_, rfl, _, heap_alloc_new _ _⟩, rfl, S, ⟨⟨M, L, h.below (hb.alloc hb.size _), o.below (hb.alloc hb.size _), rfl⟩, hw, hrm, hk0, by simp only [nds_length]; exact hll⟩, Turn.of_below (hb.alloc hb.size _), fun i hi => .inl hi⟩
    · rw [if_neg hlen]
      have k1 : ¬ (65536 : Int) < (bs.length : Int) := by omega
      have HB := hide' hbv
      subst hbe
      go_enter Tryz.func47, Tryz.ntmps47
      go_wp2_with fail
      refine hq.mono ?_
      rintro r w1 ⟨⟨x, rfl, hx⟩, hb⟩
      have hbv1 := HB.out.below hb
      go_wp2_with (at_builtin; refine wpList_append_dat _ rfl _ _ rfl rfl rfl (Dat.nil _) hbv1 (by simp; omega) ?_)
      intro v' w2 hd2 _ hg ho
      have hb2 : Below w1.heap.size w1 w2 := ⟨hg.os, hg.tape, hg.output, hg.size, fun k hk => hg.block k hk (by simp [Value.ownBlock])⟩
      have hb02 : Below w.heap.size w w2 := hb.trans (hb2.mono hb.size)
      have hown : ∀ g, v'.ownBlock = some g → g = w1.heap.size := fun g e => by
        rcases ho with ho | ho
        · rw [e] at ho; simp [Value.ownBlock] at ho
        · rw [e] at ho; exact Option.some.inj ho
      obtain ⟨va, vc, hve⟩ := hd2.len
      have hb3 : Below w.heap.size w (w2.alloc (.cells #[.bool false, .int .i64 0, v'] 99)) := hb02.alloc hb02.size _
      have hn3 : NodeAt (w2.alloc (.cells #[.bool false, .int .i64 0, v'] 99)) ⟨w2.heap.size, v', ⟨false, 0, bs⟩⟩ := heap_alloc_new w2 _
      have hd3 : Dat (w2.alloc (.cells #[.bool false, .int .i64 0, v'] 99)) v' bs := hd2.kept fun g hg => Below.heap_alloc _ _ _ (hd2.lt g hg)
      have q := put_fs A M E L clk rm p ⟨w2.heap.size, v', ⟨false, 0, bs⟩⟩ S _ (h.below hb3) (o.below hb3) hw hrm hll hk0 hk1 hp hn3 hd3 (by simp only; omega)
        (fun y hy => by have := (h.nodes y (mem_del.1 hy).1).lt; have := hb02.size; simp only; omega)
        (fun y hy g hgy e => by have h1 := (o.dat y (mem_del.1 hy).1).lt g hgy; have h2 := hown g e; have := hb.size; omega)
      have HQ := hide' (q.mono fun r w' hr => outAt_of (S := S) hb3 (fun i hi => by
        rcases hi with h1 | h1 | h1
        · exact .inl h1
        · have := hb02.size; simp only at h1; omega
        · have := hown i h1; have := hb.size; omega) hr)
      subst hve
      clear q hd2 hd3 hn3 hbv1 hx
      go_wp2_with fail
      refine HQ.out.mono ?_
      rintro r w4 ⟨v, k, rfl, hout⟩
      go_wp2
      go_ret
      exact ⟨v, k, rfl, hout⟩
  | true =>
    simp only [if_true]
    by_cases hlen : 65536 < d.length + bs.length
    · rw [if_pos hlen]
      have k1 : (65536 : Int) < (d.length : Int) + (bs.length : Int) := by omega
      subst hbe
      go_enter Tryz.func47, Tryz.ntmps47
      go_wp2_with fail
      refine hq.mono ?_
      rintro r w1 ⟨⟨x, rfl, hx⟩, hb⟩
      obtain ⟨hxn, hxd, hxe, hx1, hx2, hx3⟩ := hx
      obtain ⟨xa, xc, hxv⟩ := hxd.len
      have c2 := hxn.c2
      rw [hxv, hxe] at c2
      go_wp2
      go_ret
      exact ⟨_, .no 2, rfl, ⟨_, rfl, _, heap_alloc_new _ _⟩, rfl, S, ⟨⟨M, L, h.below (hb.alloc hb.size _), o.below (hb.alloc hb.size _), rfl⟩, hw, hrm, hk0, by simp only [nds_length]; exact hll⟩, Turn.of_below (hb.alloc hb.size _), fun i hi => .inl hi⟩
    · rw [if_neg hlen]
      have k1 : ¬ (65536 : Int) < (d.length : Int) + (bs.length : Int) := by omega
      have HB := hide' hbv
      subst hbe
      go_enter Tryz.func47, Tryz.ntmps47
      go_wp2_with fail
      refine hq.mono ?_
      rintro r w1 ⟨⟨x, rfl, hx⟩, hb⟩
      have HX := hide' hx
      obtain ⟨hxn, hxd, hxe, hx1, hx2, hx3⟩ := hx
      obtain ⟨xa, xc, hxv⟩ := hxd.len
      have hbv1 := HB.out.below hb
      have c2 := hxn.c2
      rw [hxe] at hxd
      rw [hxv, hxe] at c2
      rw [hxe] at hxv
      have hxd' := hxd
      rw [hxv] at hxd'
      clear hx1 hx2 hx3 hxn
      go_wp2_with (at_builtin; refine wpList_append_dat _ rfl _ _ rfl rfl rfl hxd' hbv1 (by omega) ?_)
      intro v' w2 hd2 hdo hg ho
      rw [← hxv] at hdo hg ho
      obtain ⟨hxn, _, hxe, hx1, hx2, hx3⟩ := HX.out
      rw [← hxe] at hdo hxd
      obtain ⟨hF2, hO2⟩ := fs_append (h.below hb) (o.below hb) hxd hdo hg hx1 hx3
      have hT2 : Turn S w w2 := (Turn.of_below (S := S) hb).trans' (Turn.of_grown hg hx2)
      have hs2 := hT2.size
      obtain ⟨va, vc, hve⟩ := hd2.len
      have ha3 : Below w2.heap.size w2 (w2.alloc (.cells #[.bool false, .int .i64 0, v'] 99)) := (Below.refl _ _).alloc (Nat.le_refl _) _
      have hT3 : Turn S w (w2.alloc (.cells #[.bool false, .int .i64 0, v'] 99)) := hT2.alloc _
      have hn3 : NodeAt (w2.alloc (.cells #[.bool false, .int .i64 0, v'] 99)) ⟨w2.heap.size, v', ⟨false, 0, d ++ bs⟩⟩ := heap_alloc_new w2 _
      have hd3 : Dat (w2.alloc (.cells #[.bool false, .int .i64 0, v'] 99)) v' (d ++ bs) := hd2.kept fun g hg => Below.heap_alloc _ _ _ (hd2.lt g hg)
      have q := put_fs A M E L clk rm p ⟨w2.heap.size, v', ⟨false, 0, d ++ bs⟩⟩ S _ (hF2.below ha3) (hO2.below ha3) hw hrm hll hk0 hk1 hp hn3 hd3 (by simp only [List.length_append]; omega)
        (fun y hy => by have := (h.nodes y (mem_del.1 hy).1).lt; simp only; omega)
        (fun y hy g hgy e => by
          rcases ho with ho | ho
          · rw [e] at ho; exact hx1 y hy g hgy ho.symm
          · rw [e] at ho; have h1 := (o.dat y (mem_del.1 hy).1).lt g hgy; have := Option.some.inj ho; have := hb.size; omega)
      have HQ := hide' (q.mono fun r w' hr => outAt_of' (S := S) hT3 (fun i hi => by
        rcases hi with h1 | h1 | h1
        · exact .inl h1
        · simp only at h1; omega
        · rcases ho with ho | ho
          · exact .inl (hx2 i (ho.symm.trans h1))
          · have := Option.some.inj (ho.symm.trans h1); have := hb.size; omega) hr)
      clear q hF2 hO2 hd3 hn3 hbv1 hxd hxd' hdo hd2 hxn hx1 hx2 hx3 hxe HX hxv c2 ho hg
      rw [List.length_append] at hve
      subst hve
      go_wp2_with fail
      refine HQ.out.mono ?_
      rintro r w4 ⟨v, k, rfl, hout⟩
      go_wp2
      go_ret
      exact ⟨v, k, rfl, hout⟩
/- what is found lies at the path itself -/
theorem ends_last (p : Bs) (h : p ≠ []) : ∃ l, ends p = l ++ [p.length] := by
  have hp : 0 < p.length := List.length_pos_iff.2 h
  have e1 : ends p = endsTo p (p.length - 1 + 1) := by rw [ends_eq]; congr 1; omega
  have e2 : isEnd p (p.length - 1 + 1) = true := by unfold isEnd; simp; omega
  rw [e1, endsTo_yes p _ e2]
  exact ⟨_, by congr 2; omega⟩
theorem look_fnd {L : Ents} {p : Bs} (hp : p ≠ []) {x : Lk En} (h : lookP isDir L p = x) : (∀ e, x = .is e → fnd L p = some e) ∧ (x = .non → fnd L p = none) ∧ x ≠ .rt := by
  obtain ⟨l, hl⟩ := ends_last p hp
  unfold lookP at h
  rw [hl, lookE_snoc] at h
  have key : ∀ st : Lk En, stp isDir L p st p.length = x → (∀ e, x = .is e → fnd L p = some e) ∧ (x = .non → fnd L p = none) ∧ x ≠ .rt := by
    intro st hs
    have hk : lkOf (fnd L p) = x → (∀ e, x = .is e → fnd L p = some e) ∧ (x = .non → fnd L p = none) ∧ x ≠ .rt := by
      intro hx
      cases hf : fnd L p with
      | none => rw [hf] at hx; subst hx; exact ⟨fun e he => (by cases he), fun _ => rfl, fun e => by cases e⟩
      | some y => rw [hf] at hx; subst hx; exact ⟨fun e he => (by cases he; rfl), fun e => (by cases e), fun e => by cases e⟩
    cases st with
    | bad n => simp only [stp] at hs; subst hs; exact ⟨fun e he => (by cases he), fun e => (by cases e), fun e => by cases e⟩
    | non => simp only [stp] at hs; subst hs; exact ⟨fun e he => (by cases he), fun e => (by cases e), fun e => by cases e⟩
    | rt => simp only [stp, List.take_length] at hs; exact hk hs
    | is y =>
      simp only [stp, List.take_length] at hs
      split at hs
      · exact hk hs
      · subst hs; exact ⟨fun e he => (by cases he), fun e => (by cases e), fun e => by cases e⟩
  exact key _ h
theorem look_nil (L : Ents) : lookP isDir L [] = .rt := rfl
theorem file_is {L : Ents} {p : Bs} {e : En} (h : fileOf (lookV L p) = .is e) : fnd L p = some e ∧ valid p = true ∧ e.nd.dir = false := by
  unfold lookV at h
  cases hv : valid p with
  | false => rw [hv] at h; simp [fileOf] at h
  | true =>
    rw [hv] at h
    simp only [if_true] at h
    by_cases hp : p = []
    · subst hp; rw [look_nil] at h; simp [fileOf] at h
    · cases hl : lookP isDir L p with
      | bad n => rw [hl] at h; simp [fileOf] at h
      | non => rw [hl] at h; simp [fileOf] at h
      | rt => rw [hl] at h; simp [fileOf] at h
      | is x =>
        rw [hl] at h
        cases hd : x.nd.dir with
        | true => simp [fileOf, hd] at h
        | false =>
          simp only [fileOf, hd, Bool.false_eq_true, if_false, Lk.is.injEq] at h
          subst h
          exact ⟨(look_fnd hp hl).1 _ rfl, rfl, hd⟩
theorem file_non {L : Ents} {p : Bs} (h : fileOf (lookV L p) = .non) : fnd L p = none ∧ valid p = true := by
  unfold lookV at h
  cases hv : valid p with
  | false => rw [hv] at h; simp [fileOf] at h
  | true =>
    rw [hv] at h
    simp only [if_true] at h
    by_cases hp : p = []
    · subst hp; rw [look_nil] at h; simp [fileOf] at h
    · cases hl : lookP isDir L p with
      | bad n => rw [hl] at h; simp [fileOf] at h
      | non => exact ⟨(look_fnd hp hl).2.1 rfl, rfl⟩
      | rt => rw [hl] at h; simp [fileOf] at h
      | is x => rw [hl] at h; cases hd : x.nd.dir <;> simp [fileOf, hd] at h
set_option maxHeartbeats 1000000 in
theorem write_fs (B A : Nat) (E : Addr) (T : Tr) (clk rm : Int) (p bs : Bs) (bv : Value) (add : Bool) (S : Nat → Prop) (w : World) (h : IsFs w S A T clk rm) (hG : Glo B w E) (hB : B ≤ w.heap.size) (hk1 : clk ≤ 1099511627776000) (hp : p.length ≤ 1000000) (hbv : Rds w bv bs) (hbl : bs.length ≤ 1000000) :
    Calls Tryz.prog 47 #[.pointer (some ⟨A, 0, none⟩), .string (mk p), bv, .bool add] w fun r w' => OutAt S A E rm w r w' (writeR T clk rm p bs add) := by
  obtain ⟨M, L, hF, hO, rfl⟩ := h.mem
  have q := fileToBe_any B A M L (weight (nds L)) clk rm p w E hF hG hB hp
  have hll : L.length ≤ 1000 := by have := h.len; rwa [nds_length] at this
  have hw := h.wt
  have hrm := h.rm
  have hwn : weight (nds L) ≤ 1048576 := by omega
  unfold writeR
  rw [fileV_nd]
  cases hl : fileOf (lookV L p) with
  | bad n =>
    rw [hl] at q
    obtain ⟨ba, bc, hbe⟩ := hbv.len
    subst hbe
    simp only [Lk.map]
    go_enter Tryz.func47, Tryz.ntmps47
    go_wp2_with fail
    refine q.mono ?_
    rintro r w1 ⟨⟨b, rfl, hf⟩, hb⟩
    go_wp2
    go_ret
    exact ⟨_, .no n, rfl, ⟨b, rfl, hf⟩, rfl, S, h.below hb, Turn.of_below hb, fun i hi => .inl hi⟩
  | rt => exact (fileOf_rt hl).elim
  | non =>
    rw [hl] at q
    obtain ⟨hf, hv⟩ := file_non hl
    have := write_go A M E L clk rm p [] bs bv add S w hF hO hw hrm hll h.clk0 hk1 (valid_len hv) hbv hbl (by simp) (q.mono fun r w1 hr => by
      obtain ⟨⟨b, hbN, rfl, hn⟩, hb⟩ := hr
      refine ⟨⟨newAt b, rfl, hn, .inl ⟨rfl, rfl⟩, rfl, fun y _ g _ e => (by simp [newAt, Value.ownBlock] at e), fun g e => (by simp [newAt, Value.ownBlock] at e), fun y hy e => ?_⟩, hb⟩
      exact absurd e (fnd_none hf y hy))
    have e0 : (if add = true then ([] : Bs) else []) = [] := by cases add <;> rfl
    simp only [e0, List.length_nil, Nat.zero_add, List.nil_append] at this
    exact this
  | is e =>
    rw [hl] at q
    obtain ⟨hf, hv, hd⟩ := file_is hl
    have hm := fnd_mem hf
    exact write_go A M E L clk rm p e.nd.data bs bv add S w hF hO hw hrm hll h.clk0 hk1 (valid_len hv) hbv hbl (data_le hwn _ hm) (q.mono fun r w1 hr => by
      obtain ⟨rfl, hb⟩ := hr
      refine ⟨⟨e, rfl, (hF.nodes _ hm).below hb, (hO.dat _ hm).kept fun g hg => hb.block g ((hO.dat _ hm).lt g hg), rfl, fun y hy g hg e1 => ?_, hO.sD _ hm, fun y hy e1 => ?_⟩, hb⟩
      · have := hO.apD y (mem_del.1 hy).1 _ hm g hg e1
        exact (mem_del.1 hy).2 (by rw [this])
      · have := hF.srt.fnd (p := y.1) (x := y.2) hy
        rw [e1, hf] at this
        exact (Option.some.inj this).symm)
end Go.Proofs.YtabmnkddmdffkaaGreatDoor
