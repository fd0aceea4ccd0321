/- What the calls of a file system come to, in plain words; the contracts of put, write and mkdir in these words. -/
import Derived.Test.YtabmnkddmdffkaaGreatDoorAOwn
import Derived.Test.YtabmnkddmdffkaaGreatDoorAFile
namespace Go.Proofs.YtabmnkddmdffkaaGreatDoor
open Go.RowKit Go.Maps

abbrev Tr := List (Bs × Nd)
def lookN (T : Tr) (p : Bs) : Lk Nd := if valid p then lookP (fun n => n.dir) T p else .bad 16
def fileN : Lk Nd → Lk Nd
  | .rt => .bad 12
  | .is e => if e.dir then .bad 12 else .is e
  | x => x
/-- an error's number, the tree and the clock behind a call -/
abbrev Out := Nat × Tr × Int
def putR (T : Tr) (clk rm : Int) (p : Bs) (n : Nd) : Out :=
  if (put T p n).length ≤ 1000 ∧ (weight (put T p n) : Int) ≤ rm then (0, put T p { n with time := clk + 1 }, clk + 1) else (15, T, clk)
def writeR (T : Tr) (clk rm : Int) (p bs : Bs) (add : Bool) : Out :=
  match fileN (lookN T p) with
  | .bad n => (n, T, clk)
  | .rt => (12, T, clk)
  | .non => if 65536 < bs.length then (2, T, clk) else putR T clk rm p ⟨false, 0, bs⟩
  | .is e => if 65536 < (if add then e.data else []).length + bs.length then (2, T, clk) else putR T clk rm p ⟨false, 0, (if add then e.data else []) ++ bs⟩
theorem lookV_nd (L : Ents) (p : Bs) : lookN (nds L) p = (lookV L p).map En.nd := by
  unfold lookN lookV
  split
  · exact lookP_map En.nd (fun n => n.dir) L p
  · rfl
theorem fileOf_nd (l : Lk En) : fileN (l.map En.nd) = (fileOf l).map En.nd := by
  cases l with
  | bad n => rfl
  | non => rfl
  | rt => rfl
  | is e => cases hd : e.nd.dir <;> simp [fileOf, fileN, Lk.map, hd]
theorem fileV_nd (L : Ents) (p : Bs) : fileN (lookN (nds L) p) = (fileOf (lookV L p)).map En.nd := by rw [lookV_nd, fileOf_nd]

/-- behind a call: an error, and a file system -/
def OutAt (S : Nat → Prop) (A : Nat) (E : Addr) (rm : Int) (w : World) (r : Ending) (w' : World) (o : Out) : Prop :=
  ∃ v k, r = .returned v ∧ IsErr w' E v k ∧ k.num = o.1 ∧ ∃ S', IsFs w' S' A o.2.1 o.2.2 rm ∧ Turn S w w' ∧ ∀ i, S' i → S i ∨ w.heap.size ≤ i

theorem put_fs (A M : Nat) (E : Addr) (L : Ents) (clk rm : Int) (p : Bs) (e : En) (S : Nat → Prop) (w : World) (h : FsAt w A M L (weight (nds L)) clk rm) (o : Own w S A M L) (hw : (weight (nds L) : Int) ≤ rm) (hrm : rm ≤ 1048576) (hll : L.length ≤ 1000) (hk0 : 0 ≤ clk) (hk1 : clk ≤ 1099511627776000) (hp : p.length ≤ 1000)
    (hn : NodeAt w e) (hd : Dat w e.dv e.nd.data) (hes : e.nd.data.length ≤ 1048576) (hfb : ∀ x ∈ del L p, x.2.blk ≠ e.blk) (hfd : ∀ x ∈ del L p, ∀ g, x.2.dv.ownBlock = some g → e.dv.ownBlock ≠ some g) :
    Calls Tryz.prog 73 #[.pointer (some ⟨A, 0, none⟩), .string (mk p), .pointer (some ⟨e.blk, 0, none⟩)] w fun r w' => OutAt (withNode S e) A E rm w r w' (putR (nds L) clk rm p e.nd) := by
  have hwn : weight (nds L) ≤ 1048576 := by omega
  have hsz := data_le hwn
  have e1 : (put (nds L) p e.nd).length = (put L p e).length := by rw [← nds_put, nds_length]
  have e2 : (weight (put (nds L) p e.nd) : Int) = weight (nds L) - wtAt L p + e.nd.wt := by rw [← nds_put]; exact weight_put h.srt p e
  unfold putR
  rw [e1, e2]
  cases hf : fits L p e (weight (nds L)) rm with
  | true =>
    have hc : (put L p e).length ≤ 1000 ∧ (weight (nds L) : Int) - wtAt L p + e.nd.wt ≤ rm := by simpa [fits] using hf
    rw [if_pos hc]
    refine (put_yes A M L (weight (nds L)) clk rm p e w h hp (by omega) (by omega) hk0 hk1 hsz hn hd.rds hes hf).mono ?_
    rintro r w' ⟨rfl, h3, m3, n3, ht⟩
    obtain ⟨hF, hO⟩ := fs_put h (o.sub fun x hx => (mem_del.1 hx).1) hp hn hd hfb hfd h3 m3 n3 ht
    have e3 : put (nds L) p { e.nd with time := clk + 1 } = nds (put L p (aged e (clk + 1))) := by rw [nds_put]; rfl
    have e4 : (weight (nds (put L p (aged e (clk + 1)))) : Int) = weight (nds L) - wtAt L p + e.nd.wt := weight_put h.srt p (aged e (clk + 1))
    refine ⟨.nilIface, .ok, rfl, rfl, rfl, withNode S e, ⟨⟨M, _, ?_, hO, e3.symm⟩, ?_, hrm, by simp only; omega, ?_⟩, ?_, fun i hi => .inl hi⟩
    · simp only [e3, e4]; exact hF
    · simp only [e3, e4]; exact hc.2
    · simp only [e3, nds_length]; rw [put_length]; rw [put_length] at hc; exact hc.1
    · exact ht.mono fun i hi => by
        rcases hi with rfl | rfl | rfl
        · exact .inl o.sA
        · exact .inl o.sM
        · exact .inr (.inl rfl)
  | false =>
    have hc : ¬ ((put L p e).length ≤ 1000 ∧ (weight (nds L) : Int) - wtAt L p + e.nd.wt ≤ rm) := by
      intro hc
      have : fits L p e (weight (nds L)) rm = true := by simpa [fits] using hc
      rw [hf] at this; cases this
    rw [if_neg hc]
    refine (put_no A M L (weight (nds L)) clk rm p e w h hp (by omega) (by omega) hsz hn hd.rds hes (by omega) hf).mono ?_
    rintro r w' ⟨b, rfl, hfl, hb⟩
    exact ⟨_, .no 15, rfl, ⟨b, rfl, hfl⟩, rfl, S, ⟨⟨M, L, h.below hb, o.below hb, rfl⟩, hw, hrm, hk0, by simp only [nds_length]; exact hll⟩, Turn.of_below hb, fun i hi => .inl (.inl hi)⟩
end Go.Proofs.YtabmnkddmdffkaaGreatDoor
