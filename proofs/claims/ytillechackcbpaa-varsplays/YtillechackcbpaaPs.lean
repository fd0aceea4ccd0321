/- The memory of the law VarsPlays between two steps. -/
import Derived.Test.YtillechackcbpaaDx
import Derived.Test.YtillechackcbpaaSame
import Derived.Test.YtillechackcbpaaMu
namespace Go.Proofs.Ytillechackcbpaa
open Go.RowKit Go.Maps

/-- the blocks of both stores -/
def BS (A : Nat) (m : Option Nat) (R : Nat) (v : Value) : Nat → Prop := fun k => Ow A m k ∨ Or R v k
/-- the twin and what was listed: none yet, or apart from both stores -/
def TwAt (w : World) (t u : Value) (S : Nat → Prop) : Prop :=
  (t = .pointer none ∧ u = .slice none 0 0) ∨ ∃ T m2 Lh, t = .pointer (some ⟨T, 0, none⟩) ∧ St w T m2 Lh ∧ VOwn w u (Lh.map (·.2)) ∧ ∀ k, (Ow T m2 k ∨ u.ownBlock = some k) → ¬ S k
theorem St.lts {w : World} {A : Nat} {m : Option Nat} {L : Vs} (h : St w A m L) : ∀ k, Ow A m k → k < w.heap.size := fun k hk => by
  rcases hk with rfl | hk
  · exact h.sb.lt
  · exact h.mp.lt k hk
theorem Rf.lts {w : World} {R : Nat} {v : Value} {L : Vs} (h : Rf w R v L) : ∀ k, Or R v k → k < w.heap.size := fun k hk => by
  rcases hk with rfl | hk
  · exact lt_of_block h.rb
  · exact h.row.lt k hk
theorem TwAt.turn {w w' : World} {t u : Value} {S S' : Nat → Prop} {Z : Nat → Prop} (h : TwAt w t u S) (ht : Turn Z w w') (hZ : ∀ k, k < w.heap.size → Z k → S k) (hS : ∀ k, S' k → S k ∨ w.heap.size ≤ k) : TwAt w' t u S' := by
  rcases h with h | ⟨T, m2, Lh, rfl, h1, h2, h3⟩
  · exact .inl h
  · have hk1 : ∀ k, Ow T m2 k → w'.heap[k]? = w.heap[k]? := fun k hk => ht.block k (h1.lts k hk) fun hz => h3 k (.inl hk) (hZ k (h1.lts k hk) hz)
    have hk2 : ∀ k, u.ownBlock = some k → w'.heap[k]? = w.heap[k]? := fun k hk => ht.block k (h2.lt k hk) fun hz => h3 k (.inr hk) (hZ k (h2.lt k hk) hz)
    refine .inr ⟨T, m2, Lh, rfl, h1.keep (hk1 T (.inl rfl)) fun M hM => hk1 M (.inr hM), h2.kept hk2, fun k hk hs => ?_⟩
    have hlt : k < w.heap.size := by
      rcases hk with hk | hk
      · exact h1.lts k hk
      · exact h2.lt k hk
    rcases hS k hs with h | h
    · exact h3 k hk h
    · omega
theorem TwAt.below {w w' : World} {t u : Value} {S : Nat → Prop} (h : TwAt w t u S) (hb : Below w.heap.size w w') : TwAt w' t u S :=
  h.turn (Z := fun _ => False) (Turn.of_below hb) (fun _ _ hz => hz.elim) fun _ hs => .inl hs
/-- the law's memory -/
structure PS (B : Nat) (w0 w : World) (A : Nat) (m : Option Nat) (R : Nat) (v : Value) (L : Vs) (T : Nat) (t u : Value) : Prop where
  both : Both w A m R v L
  lo : ∀ k, BS A m R v k → B ≤ k
  bnd : Bnd T L
  tw : TwAt w t u (BS A m R v)
  bel : Below B w0 w
  ini : B ≤ w0.heap.size
theorem PS.below {B : Nat} {w0 w w' : World} {A : Nat} {m : Option Nat} {R : Nat} {v : Value} {L : Vs} {T : Nat} {t u : Value} (h : PS B w0 w A m R v L T t u) (hb : Below w.heap.size w w') : PS B w0 w' A m R v L T t u :=
  ⟨h.both.below hb, h.lo, h.bnd, h.tw.below hb, h.bel.trans (hb.mono (Nat.le_trans h.ini h.bel.size)), h.ini⟩
theorem PS.lts {B : Nat} {w0 w : World} {A : Nat} {m : Option Nat} {R : Nat} {v : Value} {L : Vs} {T : Nat} {t u : Value} (h : PS B w0 w A m R v L T t u) : ∀ k, BS A m R v k → k < w.heap.size := fun k hk => by
  rcases hk with hk | hk
  · exact h.both.st.lts k hk
  · exact h.both.rf.lts k hk
theorem PS.chg {B : Nat} {w0 w w' : World} {A : Nat} {m m' : Option Nat} {R : Nat} {v v' : Value} {L L' : Vs} {T T' : Nat} {t u : Value} (h : PS B w0 w A m R v L T t u) (c : BChg w w' A m m' R v v' L') (hT : Bnd T' L') : PS B w0 w' A m' R v' L' T' t u := by
  have hBw := Nat.le_trans h.ini h.bel.size
  have hS : ∀ k, BS A m' R v' k → BS A m R v k ∨ w.heap.size ≤ k := fun k hk => by
    rcases hk with (rfl | hk) | (rfl | hk)
    · exact .inl (.inl (.inl rfl))
    · exact (c.ownM k hk).imp (fun h => .inl (.inr h)) id
    · exact .inl (.inr (.inl rfl))
    · exact (c.ownV k hk).imp (fun h => .inr (.inr h)) id
  refine ⟨c.both, fun k hk => ?_, hT, h.tw.turn c.turn (fun k _ hz => hz) hS, h.bel.trans (c.turn.below hBw fun k hk => h.lo k hk), h.ini⟩
  rcases hS k hk with h1 | h1
  · exact h.lo k h1
  · omega
/-- a twin is made, and listed -/
theorem PS.twin {B : Nat} {w0 w w1 w2 : World} {A : Nat} {m : Option Nat} {R : Nat} {v : Value} {L : Vs} {T : Nat} {t u u' : Value} (h : PS B w0 w A m R v L T t u) (hs : Sw w.heap.size w w1 w.heap.size L) (hr : RowV w2 w1.heap.size u' (L.map (·.2))) (hb : Below w1.heap.size w1 w2) :
    PS B w0 w2 A m R v L T (.pointer (some ⟨w.heap.size, 0, none⟩)) u' := by
  have h1 := h.below hs.below
  have h2 := h1.below hb
  obtain ⟨m2, s2, _, hm2⟩ := hs.ex
  refine ⟨h2.both, h2.lo, h2.bnd, .inr ⟨w.heap.size, m2, L, rfl, s2.below hb, hr.own, fun k hk hS => ?_⟩, h2.bel, h2.ini⟩
  have hlt := h.lts k hS
  rcases hk with (rfl | hk) | hk
  · omega
  · have := hm2 k hk; omega
  · have := hr.ge k hk
    have := hs.below.size
    omega
end Go.Proofs.Ytillechackcbpaa
