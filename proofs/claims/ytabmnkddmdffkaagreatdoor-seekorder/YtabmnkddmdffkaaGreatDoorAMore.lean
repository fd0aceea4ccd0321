/- The contracts of (*FS).mkdir, remove, touch. -/
import Derived.Test.YtabmnkddmdffkaaGreatDoorAWrite
namespace Go.Proofs.YtabmnkddmdffkaaGreatDoor
open Go.RowKit Go.Maps

def mkdirR (T : Tr) (clk rm : Int) (p : Bs) : Out :=
  match lookN T p with
  | .bad n => (n, T, clk)
  | .rt => (13, T, clk)
  | .is _ => (13, T, clk)
  | .non => putR T clk rm p ⟨true, 0, []⟩
theorem look_non {L : Ents} {p : Bs} (h : lookV L p = .non) : fnd L p = none ∧ valid p = true ∧ p ≠ [] := by
  unfold lookV at h
  cases hv : valid p with
  | false => rw [hv] at h; cases h
  | true =>
    rw [hv] at h
    simp only [if_true] at h
    by_cases hp : p = []
    · subst hp; rw [look_nil] at h; cases h
    · exact ⟨(look_fnd hp h).2.1 rfl, rfl, hp⟩
theorem look_is {L : Ents} {p : Bs} {e : En} (h : lookV L p = .is e) : fnd L p = some e ∧ valid p = true ∧ p ≠ [] := by
  unfold lookV at h
  cases hv : valid p with
  | false => rw [hv] at h; cases h
  | true =>
    rw [hv] at h
    simp only [if_true] at h
    by_cases hp : p = []
    · subst hp; rw [look_nil] at h; cases h
    · exact ⟨(look_fnd hp h).1 _ rfl, rfl, hp⟩
/-- a new empty node is laid -/
theorem put_fresh (A M : Nat) (E : Addr) (L : Ents) (clk rm : Int) (p : Bs) (d : Bool) (S : Nat → Prop) (w w1 : World) (h : FsAt w A M L (weight (nds L)) clk rm) (o : Own w S A M L) (hw : (weight (nds L) : Int) ≤ rm) (hrm : rm ≤ 1048576) (hll : L.length ≤ 1000) (hk0 : 0 ≤ clk) (hk1 : clk ≤ 1099511627776000) (hp : p.length ≤ 1000) (hb : Below w.heap.size w w1) :
    Calls Tryz.prog 73 #[.pointer (some ⟨A, 0, none⟩), .string (mk p), .pointer (some ⟨w1.heap.size, 0, none⟩)] (w1.alloc (.cells #[.bool d, .int .i64 0, .slice none 0 0] 99)) fun r w' => OutAt S A E rm w r w' (putR (nds L) clk rm p ⟨d, 0, []⟩) := by
  have hb3 : Below w.heap.size w (w1.alloc (.cells #[.bool d, .int .i64 0, .slice none 0 0] 99)) := hb.alloc hb.size _
  have hs := hb.size
  have q := put_fs A M E L clk rm p ⟨w1.heap.size, .slice none 0 0, ⟨d, 0, []⟩⟩ S _ (h.below hb3) (o.below hb3) hw hrm hll hk0 hk1 hp (heap_alloc_new w1 _) (.inl ⟨rfl, rfl⟩) (by simp)
    (fun y hy => by have := (h.nodes y (mem_del.1 hy).1).lt; simp only; omega) (fun y hy g hgy e => by simp [Value.ownBlock] at e)
  exact q.mono fun r w' hr => outAt_of (S := S) hb3 (fun i hi => by
    rcases hi with h1 | h1 | h1
    · exact .inl h1
    · simp only at h1; omega
    · simp [Value.ownBlock] at h1) hr

set_option maxHeartbeats 1000000 in
theorem mkdir_fs (B A : Nat) (E : Addr) (T : Tr) (clk rm : Int) (p : Bs) (S : Nat → Prop) (w : World) (h : IsFs w S A T clk rm) (hG : Glo B w E) (hB : B ≤ w.heap.size) (hk1 : clk ≤ 1099511627776000) (hp : p.length ≤ 1000000) :
    Calls Tryz.prog 45 #[.pointer (some ⟨A, 0, none⟩), .string (mk p)] w fun r w' => OutAt S A E rm w r w' (mkdirR T clk rm p) := by
  obtain ⟨M, L, hF, hO, rfl⟩ := h.mem
  have q := look_any B A M L (weight (nds L)) clk rm p w E hF hG hB hp
  have hll : L.length ≤ 1000 := by have := h.len; rwa [nds_length] at this
  unfold mkdirR
  rw [lookV_nd]
  cases hl : lookV L p with
  | bad n =>
    rw [hl] at q
    simp only [Lk.map]
    go_enter Tryz.func45, Tryz.ntmps45
    go_wp2_with fail
    refine q.mono ?_
    rintro r w1 ⟨⟨b, rfl, hf⟩, hb⟩
    have c0 := (hG.keep (hb.mono hB)).c0
    have q2 := is_miss b n E w1 hf.c1
    go_wp2_with fail
    refine q2.mono ?_
    rintro r w2 ⟨rfl, rfl⟩
    go_wp2
    go_ret
    exact ⟨_, .no n, rfl, ⟨b, rfl, hf⟩, rfl, S, h.below hb, Turn.of_below hb, fun i hi => .inl hi⟩
  | rt =>
    rw [hl] at q
    simp only [Lk.map]
    go_enter Tryz.func45, Tryz.ntmps45
    go_wp2_with fail
    refine q.mono ?_
    rintro r w1 ⟨⟨b, hbN, rfl, hn⟩, hb⟩
    go_wp2
    go_ret
    exact ⟨_, .no 13, rfl, ⟨_, rfl, _, heap_alloc_new _ _⟩, rfl, S, h.below (hb.alloc hb.size _), Turn.of_below (hb.alloc hb.size _), fun i hi => .inl hi⟩
  | is e =>
    rw [hl] at q
    simp only [Lk.map]
    go_enter Tryz.func45, Tryz.ntmps45
    go_wp2_with fail
    refine q.mono ?_
    rintro r w1 ⟨rfl, hb⟩
    go_wp2
    go_ret
    exact ⟨_, .no 13, rfl, ⟨_, rfl, _, heap_alloc_new _ _⟩, rfl, S, h.below (hb.alloc hb.size _), Turn.of_below (hb.alloc hb.size _), fun i hi => .inl hi⟩
  | non =>
    rw [hl] at q
    obtain ⟨hf, hv, _⟩ := look_non hl
    simp only [Lk.map]
    go_enter Tryz.func45, Tryz.ntmps45
    go_wp2_with fail
    refine q.mono ?_
    rintro r w1 ⟨⟨b, rfl, hfl⟩, hb⟩
    have c0 := (hG.keep (hb.mono hB)).c0
    have q2 := is_hit b E w1 hfl.c1
    have q3 := put_fresh A M E L clk rm p true S w w1 hF hO h.wt h.rm hll h.clk0 hk1 (valid_len hv) hb
    go_wp2_with fail
    refine q2.mono ?_
    rintro r w2 ⟨rfl, rfl⟩
    go_wp2_with fail
    refine q3.mono ?_
    rintro r w4 ⟨v, k, rfl, hout⟩
    go_wp2
    go_ret
    exact ⟨v, k, rfl, hout⟩

end Go.Proofs.YtabmnkddmdffkaaGreatDoor
