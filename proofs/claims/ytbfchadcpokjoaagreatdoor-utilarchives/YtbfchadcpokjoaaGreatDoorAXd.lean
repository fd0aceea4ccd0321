/- The trees and the lists of the law UtilArchives; the reference's Has. The utility ar, run. The law UtilArchives: its memory. -/
import Derived.Test.YtbfchadcpokjoaaGreatDoorAVa
import Derived.Test.YtbfchadcpokjoaaGreatDoorAZd
import Derived.Test.YtbfchadcpokjoaaGreatDoorAZu
import Derived.Test.YtbfchadcpokjoaaGreatDoorAZt
import Derived.Test.YtbfchadcpokjoaaGreatDoorAZz
namespace Go.Proofs.YtbfchadcpokjoaaGreatDoor
open Go.RowKit Go.Maps

def eA : Ee := ([97], 1, [49])
def eB : Ee := ([98], 2, [50, 50])
def xOf (p : Bs) : Ee := if p = [97] then eA else eB
def LOk (es : List Ee) : Prop := es = [] ∨ es = [eA] ∨ es = [eB] ∨ es = [eA, eB] ∨ es = [eB, eA]
def POk (p : Bs) : Prop := p = [97] ∨ p = [98]
theorem putE_ok {es : List Ee} {p : Bs} (h : LOk es) (hp : POk p) : LOk (putE es (xOf p)) ∧ putE es (xOf p) ≠ [] := by
  rcases h with rfl | rfl | rfl | rfl | rfl <;> rcases hp with rfl | rfl <;> refine ⟨?_, ?_⟩ <;> ((try unfold LOk); decide)
theorem puts_ok (fs : List Bs) : ∀ es, LOk es → (∀ p ∈ fs, POk p) → LOk (putA xOf es fs) := by
  induction fs with
  | nil => intro es h _; exact h
  | cons p r ih => intro es h hp; exact ih _ (putE_ok h (hp p (by simp))).1 fun q hq => hp q (by simp [hq])
theorem wl_of {es : List Ee} (h : LOk es) : Wl es := by
  rcases h with rfl | rfl | rfl | rfl | rfl <;> exact ⟨by decide +kernel, by decide +kernel, by decide, by decide +kernel, by decide⟩
theorem arc_len {es : List Ee} (h : LOk es) : (arcE es).length ≤ 200 := by
  rcases h with rfl | rfl | rfl | rfl | rfl <;> decide +kernel
def lA : Bs := [108, 46, 97]
/-- the law's tree, with an archive or without -/
def tA : Option (Int × Bs) → Tr
  | none => [([97], ⟨false, 1, [49]⟩), ([98], ⟨false, 2, [50, 50]⟩), ([100], ⟨true, 3, []⟩)]
  | some (t, b) => [([97], ⟨false, 1, [49]⟩), ([98], ⟨false, 2, [50, 50]⟩), ([100], ⟨true, 3, []⟩), ([108, 46, 97], ⟨false, t, b⟩)]
theorem read_none : readR (tA none) (clean lA) = .inl 10 := rfl
theorem read_some (t : Int) (b : Bs) : readR (tA (some (t, b))) (clean lA) = .inr b := rfl
theorem write_l (o : Option (Int × Bs)) (ck : Int) (b : Bs) (hb : b.length ≤ 200) : writeR (tA o) ck 60000 (clean lA) b false = (0, tA (some (ck + 1, b)), ck + 1) := by
  have hw : ∀ t, weight (tA (some (t, b))) = b.length + 7 := fun t => by simp [weight, tA, sumOf, Nd.wt]; omega
  have hnl : ¬ 65536 < b.length := by omega
  have hnl' : ¬ 65536 < (0 : Nat) + b.length := by omega
  rcases o with _ | ⟨t, d⟩
  · unfold writeR
    rw [show lookN (tA none) (clean lA) = .non from rfl]
    simp only [fileN, if_neg hnl]
    unfold putR
    rw [show ∀ s, put (tA none) (clean lA) ⟨false, s, b⟩ = tA (some (s, b)) from fun s => rfl, if_pos ⟨by simp [tA], by rw [hw]; omega⟩]
    rfl
  · unfold writeR
    rw [show lookN (tA (some (t, d))) (clean lA) = .is ⟨false, t, d⟩ from rfl]
    simp only [fileN, Bool.false_eq_true, if_false, List.length_nil, if_neg hnl', List.nil_append]
    unfold putR
    rw [show ∀ s, put (tA (some (t, d))) (clean lA) ⟨false, s, b⟩ = tA (some (s, b)) from fun s => rfl, if_pos ⟨by simp [tA], by rw [hw]; omega⟩]
    rfl
theorem fok (o : Option (Int × Bs)) {p : Bs} (hp : POk p) : FOk (tA o) xOf p := by
  rcases o with _ | ⟨t, d⟩ <;> rcases hp with rfl | rfl
  · exact ⟨⟨97, rfl, by decide⟩, rfl, rfl, rfl, by decide⟩
  · exact ⟨⟨98, rfl, by decide⟩, rfl, rfl, rfl, by decide⟩
  · exact ⟨⟨97, rfl, by decide⟩, rfl, rfl, rfl, by decide⟩
  · exact ⟨⟨98, rfl, by decide⟩, rfl, rfl, rfl, by decide⟩
theorem tA_dat (o : Option (Int × Bs)) (ho : ∀ t b, o = some (t, b) → b.length ≤ 200) : ∀ e ∈ tA o, e.2.data.length ≤ 1000000 := by
  intro e he
  rcases o with _ | ⟨t, d⟩
  · simp only [tA, List.mem_cons, List.not_mem_nil, or_false] at he
    rcases he with rfl | rfl | rfl <;> simp
  · have := ho t d rfl
    simp only [tA, List.mem_cons, List.not_mem_nil, or_false] at he
    rcases he with rfl | rfl | rfl | rfl <;> simp <;> omega
set_option maxRecDepth 100000 in
set_option maxHeartbeats 2000000 in
theorem has_any (v : Value) (L : List Bs) (b : Bs) (w : World) (h : Txs w v L) (hl : L.length ≤ 1000) :
    Calls Tryz.prog 15 #[v, .string (mk b)] w fun r w' => r = .returned (.bool (decide (b ∈ L))) ∧ Below w.heap.size w w' := by
  have hrow : L ≠ [] → ∃ g o c, v = .slice (some ⟨g, o, none⟩) L.length c ∧ ∀ W, Below w.heap.size w W → ∀ k f, L[k]? = some f → W.cell? ⟨g, o + k, none⟩ = some (.string (mk f)) := fun hne => by
    rcases h with ⟨_, _, _, e⟩ | ⟨g, o, c, e1, h2, h3, h4⟩
    · exact absurd e hne
    · exact ⟨g, o, c, e1, fun W hb k f hk => (hb.cell (p := ⟨g, o + k, none⟩) h3).trans (h4 k f hk)⟩
  obtain ⟨fa, fc, hfv⟩ : ∃ a c, v = .slice a L.length c := by
    rcases h with ⟨a, c, e, rfl⟩ | ⟨g, o, c, e1, _⟩
    · exact ⟨a, c, e⟩
    · exact ⟨_, c, e1⟩
  subst hfv
  clear h
  go_enter Tryz.func15, Tryz.ntmps15
  go_wp2_with fail
  go_loopw [5] (fun i wr => ∃ k : Nat, k ≤ L.length ∧ i = .int .i64 k ∧ (∀ f ∈ L.take k, ¬ f = b) ∧ Below w.heap.size w wr) (fun i _ => L.length - (intOf i).toNat)
  case atStart => exact ⟨0, Nat.zero_le _, rfl, by simp, Below.refl _ _⟩
  case round =>
    obtain ⟨k, hk, rfl, hno, hb⟩ := hrel
    by_cases hkl : k < L.length
    · have k1 : (k : Int) < L.length := by omega
      obtain ⟨f, hf⟩ : ∃ f, L[k]? = some f := ⟨_, List.getElem?_eq_getElem hkl⟩
      obtain ⟨g, o, c, hse, hcl⟩ := hrow (fun e => by rw [e] at hf; simp at hf)
      cases hse
      have d0 := hcl wr hb k f hf
      by_cases hfb : f = b
      · have hc : decide (b ∈ L) = true := decide_eq_true (hfb ▸ List.mem_of_getElem? hf)
        have he : (f == b) = true := by rw [hfb]; exact beq_self_eq_true b
        have HC := hide' (And.intro hc hb)
        clear hc hb hcl hrow hno hf hfb
        go_wp2_with fail
        go_ret
        exact ⟨by rw [HC.out.1]; rfl, HC.out.2⟩
      · have he : (f == b) = false := beq_eq_false_iff_ne.2 hfb
        have HC := hide' (And.intro hb (And.intro hno (And.intro hf hfb)))
        clear hb hcl hrow hno hf hfb
        go_wp2_with fail
        obtain ⟨hb, hno, hf, hfb⟩ := HC.out
        refine ⟨⟨k + 1, by omega, by go_num, fun x hx => ?_, hb⟩, by simp [intOf]; omega⟩
        rw [List.take_add_one, hf, Option.toList_some, List.mem_append] at hx
        rcases hx with hx | hx
        · exact hno x hx
        · rw [List.mem_singleton.1 hx]; exact hfb
    · have k1 : ¬ (k : Int) < L.length := by omega
      have hc : decide (b ∈ L) = false := decide_eq_false fun hm => hno b (by rw [List.take_of_length_le (by omega)]; exact hm) rfl
      have HC := hide' (And.intro hc hb)
      clear hc hb hrow hno
      go_wp2_with fail
      go_ret
      exact ⟨by rw [HC.out.1]; rfl, HC.out.2⟩
end Go.Proofs.YtbfchadcpokjoaaGreatDoor
namespace Go.Proofs.YtbfchadcpokjoaaGreatDoor
open Go.RowKit Go.Maps

/-- the law's memory: the file system's part -/
structure Lw (B : Nat) (E : Addr) (G : Nat) (S : Nat → Prop) (o : Option (Int × Bs)) (ck : Int) (W : World) : Prop where
  fs : IsFs W S G (tA o) ck 60000
  glo : Glo B W E
  env : AEnv W
  hB : B ≤ W.heap.size
  b9 : 9 < B
  lo : ∀ i, S i → B ≤ i
  hi : ∀ i, S i → i < W.heap.size
  ck : ck ≤ 1000000
theorem Lw.below {B : Nat} {E : Addr} {G : Nat} {S : Nat → Prop} {o : Option (Int × Bs)} {ck : Int} {W W' : World} (h : Lw B E G S o ck W) (hb : Below W.heap.size W W') : Lw B E G S o ck W' :=
  ⟨h.fs.below hb, h.glo.keep (hb.mono h.hB), h.env.keep (hb.mono h.hB) h.b9, Nat.le_trans h.hB hb.size, h.b9, h.lo, fun i hi => Nat.lt_of_lt_of_le (h.hi i hi) hb.size, h.ck⟩
/-- what a run leaves -/
def RunV (S : Nat → Prop) (G : Nat) (o : Option (Int × Bs)) (ck : Int) (out : Bs) (st : Int) (W : World) (r : Ending) (w' : World) : Prop :=
  ∃ a n, r = .returned (.tuple #[.slice a n n, .int .i64 st, .bool true]) ∧ Rds w' (.slice a n n) out ∧ FsOk S G 60000 (tA o) ck W w'
theorem RunV.next {B : Nat} {E : Addr} {G : Nat} {S : Nat → Prop} {o o' : Option (Int × Bs)} {ck ck' : Int} {W w' : World} (h : Lw B E G S o ck W) (hf : FsOk S G 60000 (tA o') ck' W w') (hc : ck' ≤ 1000000) :
    ∃ S', Lw B E G S' o' ck' w' ∧ Turn S W w' ∧ ∀ i, S' i → S i ∨ W.heap.size ≤ i := by
  obtain ⟨S', hf, ht, hs⟩ := hf
  have hb : Below B W w' := ht.below h.hB h.lo
  refine ⟨fun i => S' i ∧ i < w'.heap.size, ⟨hf.shrink, h.glo.keep hb, h.env.keep hb h.b9, Nat.le_trans h.hB hb.size, h.b9, fun i hi => ?_, fun i hi => hi.2, hc⟩, ht, fun i hi => hs i hi.1⟩
  rcases hs i hi.1 with h1 | h1
  · exact h.lo i h1
  · exact Nat.le_trans h.hB h1
def OEs (o : Option (Int × Bs)) (es : List Ee) : Prop := (o = none ∧ es = []) ∨ ∃ t, o = some (t, arcE es)
theorem OEs.dat {o : Option (Int × Bs)} {es : List Ee} (h : OEs o es) (hl : LOk es) : ∀ e ∈ tA o, e.2.data.length ≤ 1000000 := by
  refine tA_dat o fun t b e => ?_
  rcases h with ⟨rfl, _⟩ | ⟨t', rfl⟩
  · cases e
  · cases e; exact arc_len hl
theorem FsOk.early {S : Nat → Prop} {A : Nat} {rm : Int} {T : Tr} {ck : Int} {w w1 w2 : World} (h : FsOk S A rm T ck w1 w2) (hb : Below w.heap.size w w1) : FsOk S A rm T ck w w2 := by
  obtain ⟨S', hf, ht, hs⟩ := h
  exact ⟨S', hf, (Turn.of_below (S := S) hb).trans' ht, fun i hi => (hs i hi).imp_right fun h => Nat.le_trans hb.size h⟩
/-- the members of the archive, known -/
theorem mem_ok (B C : Nat) (E : Addr) (G : Nat) (S : Nat → Prop) (t : Int) (es : List Ee) (ck : Int) (y iv ov : Value) (W : World) (h : Lw B E G S (some (t, arcE es)) ck W) (hl : LOk es) (hC : CallAt W C (.pointer (some ⟨G, 0, none⟩)) y iv ov) :
    Calls Tryz.prog 127 #[.pointer (some ⟨C, 0, none⟩), .string (mk lA)] W (MbV W es) :=
  members_ok B G C E _ ck 60000 lA S y iv ov W es hC h.fs h.glo h.hB (by decide) (OEs.dat (.inr ⟨t, rfl⟩) hl) h.env (read_some t _) (wl_of hl)
theorem ms_ok (B C : Nat) (E : Addr) (G : Nat) (S : Nat → Prop) (o : Option (Int × Bs)) (es : List Ee) (ck : Int) (y iv ov : Value) (W : World) (h : Lw B E G S o ck W) (ho : OEs o es) (hl : LOk es) (hC : CallAt W C (.pointer (some ⟨G, 0, none⟩)) y iv ov) :
    Calls Tryz.prog 127 #[.pointer (some ⟨C, 0, none⟩), .string (mk lA)] W (MsV W es) := by
  rcases ho with ⟨rfl, rfl⟩ | ⟨t, rfl⟩
  · exact (members_none B G C E _ ck 60000 lA S y iv ov W hC h.fs h.glo h.hB (by decide) (OEs.dat (.inl ⟨rfl, rfl⟩) hl) read_none).mono fun _ _ h => h.ms
  · exact (mem_ok B C E G S t es ck y iv ov W h hl hC).mono fun _ _ h => h.ms
theorem cf55 (xs : Array Value) (W : World) : (callFunc 55 xs).run Tryz.prog W = .ok (.enter 55 xs) W := by kernel_rfl
theorem run_end {S : Nat → Prop} {G : Nat} {o : Option (Int × Bs)} {ck : Int} {out : Bs} {st0 : Int} {W : World} {r : Ending} {w' : World} (h : ∃ st a n w0, r = .returned (.tuple #[.slice a n n, .int .i64 st, .bool true]) ∧ (st = st0 ∧ Rds w0 (.slice a n n) out ∧ FsOk S G 60000 (tA o) ck W w0) ∧ ∃ m, w' = w0.drewN m) : RunV S G o ck out st0 W r w' := by
  obtain ⟨st, a, n, w0, rfl, ⟨rfl, hr, S', hf, ht, hs⟩, m, rfl⟩ := h
  exact ⟨a, n, rfl, hr.below (below_drewn (B := w0.heap.size) m), S', hf.below (below_drewn (B := w0.heap.size) m), ht.drewN m, hs⟩
/-- out of what was printed -/
theorem rd_end {W w' w : World} {C G : Nat} {S : Nat → Prop} {o : Option (Int × Bs)} {ck : Int} {fv y iv ov : Value} {out : Bs} (h : RdI W C fv y iv ov out w') (hf : IsFs W S G (tA o) ck 60000) (hS : ∀ i, S i → i < w.heap.size) (hb : Below w.heap.size w W) (hC : w.heap.size ≤ C) :
    ∃ a n cap, n ≤ cap ∧ w'.cell? ⟨C, 3, none⟩ = some (.slice a n cap) ∧ Rds w' (.slice a n n) out ∧ FsOk S G 60000 (tA o) ck w w' := by
  obtain ⟨a, cap, rfl⟩ := h.dat.len
  have hle : out.length ≤ cap := by
    rcases h.dat with ⟨e1, e2⟩ | ⟨g5, c5, cur5, e1, e2, e3, _⟩
    · subst e2; exact Nat.zero_le _
    · cases e1; exact e3
  have hk : ∀ i, i < w.heap.size → w'.heap[i]? = W.heap[i]? := fun i hi => h.turn.block i (Nat.lt_of_lt_of_le hi hb.size) (by omega)
  refine ⟨a, out.length, cap, hle, by rw [Lib.cell_of_heap h.call]; rfl, ?_, S, hf.apart h.turn.size fun i hi => hk i (hS i hi), ⟨h.turn.os.trans hb.os, h.turn.tape.trans hb.tape, h.turn.output.trans hb.output, Nat.le_trans hb.size h.turn.size, fun i hi _ => (hk i hi).trans (hb.block i hi)⟩, fun i hi => .inl hi⟩
  rcases h.dat.rds with ⟨e1, e2⟩ | ⟨ad, cp, e1, e2, e3⟩
  · subst e2
    cases e1
    exact .inl ⟨rfl, rfl⟩
  · cases e1; exact .inr ⟨ad, _, rfl, e2, e3⟩
theorem run_rc (B : Nat) (E : Addr) (G : Nat) (S : Nat → Prop) (o : Option (Int × Bs)) (es : List Ee) (ck : Int) (v : Value) (fs : List Bs) (W : World) (h : Lw B E G S o ck W) (ho : OEs o es) (hl : LOk es) (hp : ∀ p ∈ fs, POk p) (hfl : fs.length ≤ 100) (hv : Txs W v ([97, 114] :: [114, 99] :: lA :: fs)) :
    Calls Tryz.prog 16 #[.pointer (some ⟨G, 0, none⟩), v, .slice none 0 0] W (RunV S G (some (ck + 1, arcE (putA xOf es fs))) (ck + 1) [] 0 W) := by
  refine (run_any W ⟨G, 0, none⟩ none 0 0 v [97, 114] ([114, 99] :: lA :: fs) 55 rfl cf55 (by simp only [List.length_cons]; omega) hv (fun a n st w' => st = 0 ∧ Rds w' (.slice a n n) [] ∧ FsOk S G 60000 (tA (some (ck + 1, arcE (putA xOf es fs)))) (ck + 1) W w') (fun W1 C y hb hC0 hC1 hcl hTy => ?_)).mono fun _ _ h => run_end h
  have h1 := h.below hb
  refine (archive_rc C lA fs _ y _ _ W1 hcl (hTy.below hb (Nat.le_refl _)) (fun st w' => st = 0 ∧ FsOk S G 60000 (tA (some (ck + 1, arcE (putA xOf es fs)))) (ck + 1) W1 w') (fun W2 lv hb2 hT2 => ?_)).mono ?_
  · have h2 := h1.below hb2
    have hc2 := (hb2.block C (lt_of_block hcl)).trans hcl
    refine (putFiles_ok B G C E (tA o) _ ck (ck + 1) 60000 lA fs xOf S _ _ _ lv W2 es hc2 h2.fs h2.glo h2.hB h2.lo (by have := h2.ck; omega) (by decide) (ho.dat hl) h2.env (ms_ok B C E G S o es ck _ _ _ W2 h2 ho hl hc2) (fun f hf => fok o (hp f hf)) (by omega) hT2 (fun k _ => wl_of (puts_ok _ es hl fun p hp' => hp p (List.mem_of_mem_take hp'))) (write_l o ck _ (arc_len (puts_ok fs es hl hp)))).mono ?_
    rintro r w' ⟨rfl, hf⟩
    exact ⟨_, 0, rfl, .inl ⟨rfl, rfl⟩, rfl, hf.early hb2⟩
  · rintro r w' ⟨st, rfl, rfl, hf⟩
    refine ⟨0, none, 0, 0, rfl, Nat.le_refl _, ?_, rfl, .inl ⟨rfl, rfl⟩, hf.early hb⟩
    obtain ⟨S', _, ht, _⟩ := hf
    rw [Lib.cell_of_heap ((ht.block C (lt_of_block hcl) (fun hs => by have := h.hi C hs; omega)).trans hcl)]
    rfl
theorem run_r (B : Nat) (E : Addr) (G : Nat) (S : Nat → Prop) (o : Option (Int × Bs)) (es : List Ee) (ck : Int) (v : Value) (fs : List Bs) (W : World) (h : Lw B E G S o ck W) (ho : OEs o es) (hl : LOk es) (hp : ∀ p ∈ fs, POk p) (hfl : fs.length ≤ 100) (hv : Txs W v ([97, 114] :: [114] :: lA :: fs)) :
    Calls Tryz.prog 16 #[.pointer (some ⟨G, 0, none⟩), v, .slice none 0 0] W (RunV S G (some (ck + 1, arcE (putA xOf es fs))) (ck + 1) [] 0 W) := by
  refine (run_any W ⟨G, 0, none⟩ none 0 0 v [97, 114] ([114] :: lA :: fs) 55 rfl cf55 (by simp only [List.length_cons]; omega) hv (fun a n st w' => st = 0 ∧ Rds w' (.slice a n n) [] ∧ FsOk S G 60000 (tA (some (ck + 1, arcE (putA xOf es fs)))) (ck + 1) W w') (fun W1 C y hb hC0 hC1 hcl hTy => ?_)).mono fun _ _ h => run_end h
  have h1 := h.below hb
  refine (archive_r C lA fs _ y _ _ W1 hcl (hTy.below hb (Nat.le_refl _)) (fun st w' => st = 0 ∧ FsOk S G 60000 (tA (some (ck + 1, arcE (putA xOf es fs)))) (ck + 1) W1 w') (fun W2 lv hb2 hT2 => ?_)).mono ?_
  · have h2 := h1.below hb2
    have hc2 := (hb2.block C (lt_of_block hcl)).trans hcl
    refine (putFiles_ok B G C E (tA o) _ ck (ck + 1) 60000 lA fs xOf S _ _ _ lv W2 es hc2 h2.fs h2.glo h2.hB h2.lo (by have := h2.ck; omega) (by decide) (ho.dat hl) h2.env (ms_ok B C E G S o es ck _ _ _ W2 h2 ho hl hc2) (fun f hf => fok o (hp f hf)) (by omega) hT2 (fun k _ => wl_of (puts_ok _ es hl fun p hp' => hp p (List.mem_of_mem_take hp'))) (write_l o ck _ (arc_len (puts_ok fs es hl hp)))).mono ?_
    rintro r w' ⟨rfl, hf⟩
    exact ⟨_, 0, rfl, .inl ⟨rfl, rfl⟩, rfl, hf.early hb2⟩
  · rintro r w' ⟨st, rfl, rfl, hf⟩
    refine ⟨0, none, 0, 0, rfl, Nat.le_refl _, ?_, rfl, .inl ⟨rfl, rfl⟩, hf.early hb⟩
    obtain ⟨S', _, ht, _⟩ := hf
    rw [Lib.cell_of_heap ((ht.block C (lt_of_block hcl) (fun hs => by have := h.hi C hs; omega)).trans hcl)]
    rfl
theorem run_t (B : Nat) (E : Addr) (G : Nat) (S : Nat → Prop) (t : Int) (es : List Ee) (ck : Int) (v : Value) (W : World) (h : Lw B E G S (some (t, arcE es)) ck W) (hl : LOk es) (hv : Txs W v [[97, 114], [116], lA]) :
    Calls Tryz.prog 16 #[.pointer (some ⟨G, 0, none⟩), v, .slice none 0 0] W (RunV S G (some (t, arcE es)) ck (outN es) 0 W) := by
  refine (run_any W ⟨G, 0, none⟩ none 0 0 v [97, 114] [[116], lA] 55 rfl cf55 (by decide) hv (fun a n st w' => st = 0 ∧ Rds w' (.slice a n n) (outN es) ∧ FsOk S G 60000 (tA (some (t, arcE es))) ck W w') (fun W1 C y hb hC0 hC1 hcl hTy => ?_)).mono fun _ _ h => run_end h
  have h1 := h.below hb
  refine (archive_t C lA [] _ y _ _ W1 hcl (hTy.below hb (Nat.le_refl _)) (fun st w' => st = 0 ∧ ∃ ov, RdI W1 C (.pointer (some ⟨G, 0, none⟩)) y (.slice none 0 0) ov (outN es) w') (fun W2 lv hb2 hT2 => ?_)).mono ?_
  · have h2 := h1.below hb2
    have hc2 := (hb2.block C (lt_of_block hcl)).trans hcl
    refine (tellNames_ok C lA _ _ _ lv W2 es hc2 (mem_ok B C E G S t es ck _ _ _ W2 h2 hl hc2) (wl_of hl) (by rcases hl with rfl | rfl | rfl | rfl | rfl <;> decide)).mono ?_
    rintro r w' ⟨rfl, ov, hI⟩
    exact ⟨_, 0, rfl, .inl ⟨rfl, rfl⟩, rfl, ov, hI.early hb2⟩
  · rintro r w' ⟨st, rfl, rfl, ov, hI⟩
    obtain ⟨a, n, cap, h1', h2', h3', h4'⟩ := rd_end hI h1.fs h.hi hb hC0
    exact ⟨0, a, n, cap, rfl, h1', h2', rfl, h3', h4'⟩
theorem run_p (B : Nat) (E : Addr) (G : Nat) (S : Nat → Prop) (t : Int) (es : List Ee) (ck : Int) (v : Value) (n : Bs) (k : Nat) (e : Ee) (W : World) (h : Lw B E G S (some (t, arcE es)) ck W) (hl : LOk es) (hk : placeE es n = (k : Nat)) (he : es[k]? = some e) (hd : e.2.2.length ≤ 60000) (hv : Txs W v [[97, 114], [112], lA, n]) :
    Calls Tryz.prog 16 #[.pointer (some ⟨G, 0, none⟩), v, .slice none 0 0] W (RunV S G (some (t, arcE es)) ck e.2.2 0 W) := by
  refine (run_any W ⟨G, 0, none⟩ none 0 0 v [97, 114] [[112], lA, n] 55 rfl cf55 (by simp) hv (fun a n st w' => st = 0 ∧ Rds w' (.slice a n n) e.2.2 ∧ FsOk S G 60000 (tA (some (t, arcE es))) ck W w') (fun W1 C y hb hC0 hC1 hcl hTy => ?_)).mono fun _ _ h => run_end h
  have h1 := h.below hb
  refine (archive_p C lA [n] _ y _ _ W1 hcl (hTy.below hb (Nat.le_refl _)) (fun st w' => st = 0 ∧ ∃ ov, RdI W1 C (.pointer (some ⟨G, 0, none⟩)) y (.slice none 0 0) ov e.2.2 w') (fun W2 lv hb2 hT2 => ?_)).mono ?_
  · have h2 := h1.below hb2
    have hc2 := (hb2.block C (lt_of_block hcl)).trans hcl
    refine (tellData_ok C lA n _ _ _ lv W2 es k e hc2 (mem_ok B C E G S t es ck _ _ _ W2 h2 hl hc2) (wl_of hl) hT2 hk he hd).mono ?_
    rintro r w' ⟨rfl, ov, hI⟩
    exact ⟨_, 0, rfl, .inl ⟨rfl, rfl⟩, rfl, ov, hI.early hb2⟩
  · rintro r w' ⟨st, rfl, rfl, ov, hI⟩
    obtain ⟨a, n, cap, h1', h2', h3', h4'⟩ := rd_end hI h1.fs h.hi hb hC0
    exact ⟨0, a, n, cap, rfl, h1', h2', rfl, h3', h4'⟩
theorem run_np (B : Nat) (E : Addr) (G : Nat) (S : Nat → Prop) (t : Int) (es : List Ee) (ck : Int) (v : Value) (n : Bs) (W : World) (h : Lw B E G S (some (t, arcE es)) ck W) (hl : LOk es) (hk : placeE es n = -1) (hv : Txs W v [[97, 114], [112], lA, n]) :
    Calls Tryz.prog 16 #[.pointer (some ⟨G, 0, none⟩), v, .slice none 0 0] W (RunV S G (some (t, arcE es)) ck [] 1 W) := by
  refine (run_any W ⟨G, 0, none⟩ none 0 0 v [97, 114] [[112], lA, n] 55 rfl cf55 (by simp) hv (fun a n st w' => st = 1 ∧ Rds w' (.slice a n n) [] ∧ FsOk S G 60000 (tA (some (t, arcE es))) ck W w') (fun W1 C y hb hC0 hC1 hcl hTy => ?_)).mono fun _ _ h => run_end h
  have h1 := h.below hb
  refine (archive_p C lA [n] _ y _ _ W1 hcl (hTy.below hb (Nat.le_refl _)) (fun st w' => st = 1 ∧ Below W1.heap.size W1 w') (fun W2 lv hb2 hT2 => ?_)).mono ?_
  · have h2 := h1.below hb2
    have hc2 := (hb2.block C (lt_of_block hcl)).trans hcl
    refine (tellData_none C lA n lv W2 es (mem_ok B C E G S t es ck _ _ _ W2 h2 hl hc2) (wl_of hl) hT2 hk).mono ?_
    rintro r w' ⟨g, rfl, hb3⟩
    exact ⟨_, 1, rfl, .inr ⟨g, rfl, rfl⟩, rfl, hb2.trans (hb3.mono hb2.size)⟩
  · rintro r w' ⟨st, rfl, rfl, hb3⟩
    have hbw : Below W.heap.size W w' := hb.trans (hb3.mono hb.size)
    refine ⟨1, none, 0, 0, rfl, Nat.le_refl _, ?_, rfl, .inl ⟨rfl, rfl⟩, S, h.fs.below hbw, Turn.of_below hbw, fun i hi => .inl hi⟩
    rw [Lib.cell_of_heap ((hb3.block C (lt_of_block hcl)).trans hcl)]
    rfl
theorem run_d (B : Nat) (E : Addr) (G : Nat) (S : Nat → Prop) (t : Int) (e : Ee) (es : List Ee) (ck : Int) (v : Value) (n : Bs) (W : World) (h : Lw B E G S (some (t, arcE (e :: es))) ck W) (hl : LOk (e :: es)) (hl' : LOk es) (hk : placeE (e :: es) n = 0) (hv : Txs W v [[97, 114], [100], lA, n]) :
    Calls Tryz.prog 16 #[.pointer (some ⟨G, 0, none⟩), v, .slice none 0 0] W (RunV S G (some (ck + 1, arcE es)) (ck + 1) [] 0 W) := by
  refine (run_any W ⟨G, 0, none⟩ none 0 0 v [97, 114] [[100], lA, n] 55 rfl cf55 (by simp) hv (fun a n st w' => st = 0 ∧ Rds w' (.slice a n n) [] ∧ FsOk S G 60000 (tA (some (ck + 1, arcE es))) (ck + 1) W w') (fun W1 C y hb hC0 hC1 hcl hTy => ?_)).mono fun _ _ h => run_end h
  have h1 := h.below hb
  refine (archive_d C lA [n] _ y _ _ W1 hcl (hTy.below hb (Nat.le_refl _)) (fun st w' => st = 0 ∧ FsOk S G 60000 (tA (some (ck + 1, arcE es))) (ck + 1) W1 w') (fun W2 lv hb2 hT2 => ?_)).mono ?_
  · have h2 := h1.below hb2
    have hc2 := (hb2.block C (lt_of_block hcl)).trans hcl
    refine (dropMembers_ok B G C E _ _ ck (ck + 1) 60000 lA n S _ _ _ lv W2 e es hc2 h2.fs h2.glo h2.hB h2.lo (by have := h2.ck; omega) (by decide) h2.env (mem_ok B C E G S t (e :: es) ck _ _ _ W2 h2 hl hc2) hT2 hk (wl_of hl) (wl_of hl') (write_l _ ck _ (arc_len hl'))).mono ?_
    rintro r w' ⟨rfl, hf⟩
    exact ⟨_, 0, rfl, .inl ⟨rfl, rfl⟩, rfl, hf.early hb2⟩
  · rintro r w' ⟨st, rfl, rfl, hf⟩
    refine ⟨0, none, 0, 0, rfl, Nat.le_refl _, ?_, rfl, .inl ⟨rfl, rfl⟩, hf.early hb⟩
    obtain ⟨S', _, ht, _⟩ := hf
    rw [Lib.cell_of_heap ((ht.block C (lt_of_block hcl) (fun hs => by have := h.hi C hs; omega)).trans hcl)]
    rfl
end Go.Proofs.YtbfchadcpokjoaaGreatDoor
namespace Go.Proofs.YtbfchadcpokjoaaGreatDoor
open Go.RowKit Go.Maps

theorem and_one (x : Int) : bits BinOp.and IntKind.i64 x 1 = 0 ∨ bits BinOp.and IntKind.i64 x 1 = 1 := by
  unfold bits
  simp
  have h1 : 1 % 2 ^ IntKind.i64.bits = 1 := by decide
  rw [h1, Nat.and_one_is_mod]
  rcases Nat.mod_two_eq_zero_or_one (x % 2 ^ IntKind.i64.bits).toNat with h | h <;> rw [h]
  · exact .inl (by decide)
  · exact .inr (by decide)
/-- a slice that reads as numbers -/
def Nis (w : World) (v : Value) (L : List Int) : Prop := (∃ a c, v = .slice a 0 c ∧ L = []) ∨ ∃ a c, v = .slice (some a) L.length c ∧ a.block < w.heap.size ∧ ∀ (i : Nat) x, L[i]? = some x → w.cell? (a.add i) = some (.int .i64 x)
def lt (x : Int) : Bs := if bits BinOp.and IntKind.i64 x 1 = 0 then [97] else [98]
theorem lt_ok (x : Int) : POk (lt x) := by unfold lt POk; split <;> simp
abbrev strs (L : List Bs) : List Value := L.map fun x => .string (mk x)
/-- texts in a row of our own -/
def OwT (w : World) (b : Nat) (v : Value) (L : List Bs) : Prop := w.ownsRow b 9 1 v L.length (strs L)
theorem OwT.kept {w w' : World} {b : Nat} {v : Value} {L : List Bs} (h : OwT w b v L) (hk : ∀ g, v.ownBlock = some g → w'.heap[g]? = w.heap[g]?) : OwT w' b v L := by
  refine ⟨h.1, ?_⟩
  rcases h.2 with h1 | ⟨g, cap, cur, rfl, h2, hg, r⟩
  · exact .inl h1
  · exact .inr ⟨g, cap, cur, rfl, h2, (hk g rfl).trans hg, r⟩
theorem OwT.lt {w : World} {b : Nat} {v : Value} {L : List Bs} (h : OwT w b v L) : ∀ g, v.ownBlock = some g → g < w.heap.size ∧ b ≤ g := by
  intro g hg
  rcases h.2 with ⟨rfl, _⟩ | ⟨g', cap, cur, rfl, h2, hg', r⟩
  · cases hg
  · cases hg; exact ⟨lt_of_block hg', h2⟩
theorem OwT.len {w : World} {b : Nat} {v : Value} {L : List Bs} (h : OwT w b v L) : ∃ a c, v = .slice a L.length c := by
  rcases h.2 with ⟨rfl, e⟩ | ⟨g', cap, cur, rfl, _⟩
  · rw [e]; exact ⟨_, _, rfl⟩
  · exact ⟨_, _, rfl⟩
theorem OwT.txs {w : World} {b : Nat} {v : Value} {L : List Bs} (h : OwT w b v L) : Txs w v L := by
  rcases h.2 with ⟨rfl, e⟩ | ⟨g', cap, cur, rfl, _, hg, h3, _, _, h6⟩
  · exact .inl ⟨_, _, rfl, List.length_eq_zero_iff.1 e⟩
  · refine .inr ⟨g', 0, cap, rfl, h3, lt_of_block hg, fun i x hi => ?_⟩
    have hil := (List.getElem?_eq_some_iff.1 hi).1
    rw [Nat.zero_add, Lib.cell_of_heap hg]
    have h7 : (cur.toList.take (L.length * 1))[i]? = some (.string (mk x)) := by rw [h6, List.getElem?_map, hi]; rfl
    rw [List.getElem?_take_of_lt (by omega), Array.getElem?_toList] at h7
    exact h7
theorem ts_cells (w : World) (b : Bs) : ∀ j u, (strs [b])[j]? = some u → (w.alloc (.cells #[.string (mk b)] 9)).cell? ((⟨w.heap.size, 0, none⟩ : Addr).add j) = some u := by
  intro j u hj
  rw [add_zero, Lib.cell_of_heap (heap_alloc_new _ _)]
  simpa using hj
/-- the law's memory -/
structure LS (w : World) (B : Nat) (E : Addr) (G : Nat) (S : Nat → Prop) (o : Option (Int × Bs)) (ck : Int) (a s : Value) (A0 S0 : List Bs) (W : World) : Prop where
  lw : Lw B E G S o ck W
  sl : ∀ i, S i → w.heap.size ≤ i
  oa : OwT W w.heap.size a A0
  os : OwT W w.heap.size s S0
  na : ∀ g, a.ownBlock = some g → ¬ S g ∧ s.ownBlock ≠ some g
  ns : ∀ g, s.ownBlock = some g → ¬ S g
  bl : Below w.heap.size w W
section
variable {w : World} {B : Nat} {E : Addr} {G : Nat} {S : Nat → Prop} {o : Option (Int × Bs)} {ck : Int} {a s : Value} {A0 S0 : List Bs} {W W' : World}
theorem LS.below (h : LS w B E G S o ck a s A0 S0 W) (hb : Below W.heap.size W W') : LS w B E G S o ck a s A0 S0 W' :=
  ⟨h.lw.below hb, h.sl, h.oa.kept fun g hg => hb.block g (h.oa.lt g hg).1, h.os.kept fun g hg => hb.block g (h.os.lt g hg).1, h.na, h.ns, h.bl.trans (hb.mono h.bl.size)⟩
theorem Lw.grown (h : Lw B E G S o ck W) {v : Value} (hg : W.grownBy W' v.ownBlock) (hv : ∀ g, v.ownBlock = some g → ¬ S g ∧ B ≤ g) : Lw B E G S o ck W' := by
  have ht : Turn (fun i => v.ownBlock = some i) W W' := Turn.of_grown hg fun k hk => hk
  have hb : Below B W W' := ht.below h.hB fun i hi => (hv i hi).2
  exact ⟨h.fs.apart ht.size fun i hi => ht.block i (h.hi i hi) fun e => (hv i e).1 hi, h.glo.keep hb, h.env.keep hb h.b9, Nat.le_trans h.hB hb.size, h.b9, h.lo, fun i hi => Nat.lt_of_lt_of_le (h.hi i hi) ht.size, h.ck⟩
theorem LS.pushA (h : LS w B E G S o ck a s A0 S0 W) (hBw : B ≤ w.heap.size) {a' : Value} {x : Bs} {g' : Nat} (hg : W.grownBy W' a.ownBlock) (ho : OwT W' w.heap.size a' (A0 ++ [x])) (ha : a'.ownBlock = some g') (hat : a.ownBlock = some g' ∨ g' = W.heap.size) : LS w B E G S o ck a' s (A0 ++ [x]) S0 W' := by
  have ht : Turn (fun i => a.ownBlock = some i) W W' := Turn.of_grown hg fun k hk => hk
  refine ⟨h.lw.grown hg fun g e => ⟨(h.na g e).1, Nat.le_trans hBw (h.oa.lt g e).2⟩, h.sl, ho, h.os.kept fun g e => ht.block g (h.os.lt g e).1 fun e2 => (h.na g e2).2 e, fun g e => ?_, h.ns, h.bl.trans (ht.below h.bl.size fun i hi => (h.oa.lt i hi).2)⟩
  rw [ha] at e
  obtain rfl := Option.some.inj e
  rcases hat with h1 | h1
  · exact h.na _ h1
  · subst h1
    exact ⟨fun hs => Nat.lt_irrefl _ (h.lw.hi _ hs), fun e => Nat.lt_irrefl _ (h.os.lt _ e).1⟩
theorem LS.pushS (h : LS w B E G S o ck a s A0 S0 W) (hBw : B ≤ w.heap.size) {s' : Value} {x : Bs} {g' : Nat} (hg : W.grownBy W' s.ownBlock) (ho : OwT W' w.heap.size s' (S0 ++ [x])) (hs : s'.ownBlock = some g') (hat : s.ownBlock = some g' ∨ g' = W.heap.size) : LS w B E G S o ck a s' A0 (S0 ++ [x]) W' := by
  have ht : Turn (fun i => s.ownBlock = some i) W W' := Turn.of_grown hg fun k hk => hk
  refine ⟨h.lw.grown hg fun g e => ⟨h.ns g e, Nat.le_trans hBw (h.os.lt g e).2⟩, h.sl, h.oa.kept fun g e => ht.block g (h.oa.lt g e).1 fun e2 => (h.na g e).2 e2, ho, fun g e => ⟨(h.na g e).1, fun e2 => ?_⟩, fun g e => ?_, h.bl.trans (ht.below h.bl.size fun i hi => (h.os.lt i hi).2)⟩
  · rw [hs] at e2
    obtain rfl := Option.some.inj e2
    rcases hat with h1 | h1
    · exact (h.na _ e).2 h1
    · subst h1; exact Nat.lt_irrefl _ (h.oa.lt _ e).1
  · rw [hs] at e
    obtain rfl := Option.some.inj e
    rcases hat with h1 | h1
    · exact h.ns _ h1
    · subst h1; exact fun hs => Nat.lt_irrefl _ (h.lw.hi _ hs)
theorem LS.run (h : LS w B E G S o ck a s A0 S0 W) {o' : Option (Int × Bs)} {ck' : Int} (hf : FsOk S G 60000 (tA o') ck' W W') (hc : ck' ≤ 1000000) : ∃ S', LS w B E G S' o' ck' a s A0 S0 W' := by
  obtain ⟨S', hl, ht, hs⟩ := RunV.next h.lw hf hc
  have hn : ∀ {v : Value} {L : List Bs}, OwT W w.heap.size v L → (∀ g, v.ownBlock = some g → ¬ S g) → ∀ g, v.ownBlock = some g → ¬ S' g := fun ho hv g e hg => by
    rcases hs g hg with h1 | h1
    · exact hv g e h1
    · have := (ho.lt g e).1; omega
  refine ⟨S', hl, fun i hi => ?_, h.oa.kept fun g e => ht.block g (h.oa.lt g e).1 (h.na g e).1, h.os.kept fun g e => ht.block g (h.os.lt g e).1 (h.ns g e), fun g e => ⟨hn h.oa (fun g e => (h.na g e).1) g e, (h.na g e).2⟩, hn h.os h.ns, h.bl.trans (ht.below h.bl.size h.sl)⟩
  rcases hs i hi with h1 | h1
  · exact h.sl i h1
  · exact Nat.le_trans h.bl.size h1
end
theorem put_in {es : List Ee} {p : Bs} (h : LOk es) (hp : POk p) (hi : p ∈ es.map (·.1)) : putE es (xOf p) = es := by
  rcases h with rfl | rfl | rfl | rfl | rfl <;> rcases hp with rfl | rfl <;> revert hi <;> decide
theorem put_out {es : List Ee} {p : Bs} (h : LOk es) (hp : POk p) (hi : ¬ p ∈ es.map (·.1)) : putE es (xOf p) = es ++ [xOf p] ∧ (xOf p).1 = p := by
  rcases h with rfl | rfl | rfl | rfl | rfl <;> rcases hp with rfl | rfl <;> revert hi <;> decide
theorem place_at' {es : List Ee} (h : LOk es) {k : Nat} {e : Ee} (he : es[k]? = some e) : placeE es e.1 = (k : Nat) ∧ (e = eA ∨ e = eB) := by
  rcases h with rfl | rfl | rfl | rfl | rfl
  · simp at he
  · rcases k with _ | k
    · cases he; exact ⟨rfl, .inl rfl⟩
    · simp at he
  · rcases k with _ | k
    · cases he; exact ⟨rfl, .inr rfl⟩
    · simp at he
  · rcases k with _ | _ | k
    · cases he; exact ⟨rfl, .inl rfl⟩
    · cases he; exact ⟨rfl, .inr rfl⟩
    · simp at he
  · rcases k with _ | _ | k
    · cases he; exact ⟨rfl, .inr rfl⟩
    · cases he; exact ⟨rfl, .inl rfl⟩
    · simp at he
theorem drop_first {e : Ee} {es : List Ee} (h : LOk (e :: es)) : LOk es ∧ placeE (e :: es) e.1 = 0 ∧ placeE es e.1 = -1 := by
  rcases h with h | h | h | h | h <;> cases h
  · exact ⟨.inl rfl, rfl, rfl⟩
  · exact ⟨.inl rfl, rfl, rfl⟩
  · exact ⟨.inr (.inr (.inl rfl)), rfl, rfl⟩
  · exact ⟨.inr (.inl rfl), rfl, rfl⟩
end Go.Proofs.YtbfchadcpokjoaaGreatDoor
