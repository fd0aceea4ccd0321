/- passSep; pipe. A thing more in a field of a command that is being built. -/
import Derived.Test.YtcemlhfodpelaaaGreatDoorZm
import Derived.Test.YtcemlhfodpelaaaGreatDoorZf
namespace Go.Proofs.YtcemlhfodpelaaaGreatDoor
open Go.RowKit

set_option maxHeartbeats 2000000 in
theorem sep_none {w : World} {x : Cx} {s : PS} (h : PsAt w x s) (he : sepP s = none) : Calls Tryz.prog 60 #[ptr x.A] w fun e w' => e = .returned (.bool false) ∧ PsAt w' x s ∧ Gr x w w' := by
  have hn : tx s.ts ≠ [59] ∧ tx s.ts ≠ [10] := by
    unfold sepP at he
    split at he
    · cases he
    · rename_i h1; exact ⟨fun e => h1 (.inl e), fun e => h1 (.inr e)⟩
  have q := pass_no h [59] hn.1
  have HH := hide' (And.intro h hn.2)
  clear h he hn
  go_enter Tryz.func60, Tryz.ntmps60
  go_wp2_with fail
  refine q.mono ?_
  rintro e w1 ⟨rfl, n, hw1⟩
  clear q
  have q := pass_no (show PsAt w1 x s by rw [hw1]; exact HH.out.1.drewN n) [10] HH.out.2
  have HN := hide' (show PsAt w1 x s ∧ Gr x w w1 by rw [hw1]; exact ⟨HH.out.1.drewN n, Gr.drewN x w n⟩)
  clear hw1
  dsimp only
  go_wp2_with fail
  refine q.mono ?_
  rintro e w2 ⟨rfl, m, hw2⟩
  clear q
  dsimp only
  have HM := hide' hw2
  clear hw2
  go_wp2
  go_ret
  exact ⟨rfl, by rw [HM.out]; exact ⟨HN.out.1.drewN m, HN.out.2.trans (Gr.drewN x _ m)⟩⟩
set_option maxHeartbeats 2000000 in
theorem sep_some {w : World} {x : Cx} {s s' : PS} (h : PsAt w x s) (he : sepP s = some s') : Calls Tryz.prog 60 #[ptr x.A] w fun e w' => e = .returned (.bool true) ∧ PsAt w' x s' ∧ Gr x w w' := by
  have hn : (tx s.ts = [59] ∨ tx s.ts = [10]) ∧ s.nx.sk = s' := by
    unfold sepP at he
    split at he
    · rename_i h1; exact ⟨h1, Option.some.inj he⟩
    · cases he
  obtain ⟨hn, rfl⟩ := hn
  clear he
  by_cases h59 : tx s.ts = [59]
  · have q := pass_yes h [59] (by simp) h59
    clear h hn h59
    go_enter Tryz.func60, Tryz.ntmps60
    go_wp2_with fail
    refine q.mono ?_
    rintro e w1 ⟨rfl, h1, g1⟩
    clear q
    have q := skip_any h1
    have HG := hide' g1
    clear g1 h1
    dsimp only
    go_wp2_with fail
    refine q.mono ?_
    rintro e w2 ⟨rfl, h2, g2⟩
    have HJ := hide' (And.intro h2 (HG.out.trans g2))
    clear q h2 g2
    dsimp only
    go_wp2
    go_ret
    exact ⟨rfl, HJ.out⟩
  · have h10 : tx s.ts = [10] := by rcases hn with e | e; exact absurd e h59; exact e
    have q := pass_no h [59] h59
    have HH := hide' h
    clear h hn h59
    go_enter Tryz.func60, Tryz.ntmps60
    go_wp2_with fail
    refine q.mono ?_
    rintro e w0 ⟨rfl, n, hw0⟩
    clear q
    have q := pass_yes (show PsAt w0 x s by rw [hw0]; exact HH.out.drewN n) [10] (by simp) h10
    have HG0 := hide' (show Gr x w w0 by rw [hw0]; exact Gr.drewN x w n)
    clear hw0 h10
    dsimp only
    go_wp2_with fail
    refine q.mono ?_
    rintro e w1 ⟨rfl, h1, g1⟩
    clear q
    have q := skip_any h1
    have HG := hide' (HG0.out.trans g1)
    clear g1 h1
    dsimp only
    go_wp2_with fail
    refine q.mono ?_
    rintro e w2 ⟨rfl, h2, g2⟩
    have HJ := hide' (And.intro h2 (HG.out.trans g2))
    clear q h2 g2
    dsimp only
    go_wp2
    go_ret
    exact ⟨rfl, HJ.out⟩
end Go.Proofs.YtcemlhfodpelaaaGreatDoor
namespace Go.Proofs.YtcemlhfodpelaaaGreatDoor
open Go.RowKit

structure BxC (b f : Nat) (kv : Value) (w : World) : Prop where
  c : w.cell? ⟨b, f, none⟩ = some kv
theorem PsAt.drew {w : World} {x : Cx} {s : PS} (h : PsAt w x s) : PsAt w.drew x s := h.below ((Below.refl _ _).drew)
theorem Gr.drew (x : Cx) (w : World) : Gr x w w.drew := Gr.of_below ((Below.refl _ _).drew)
theorem infoCmd : (Tryz.prog.info? 28).map (fun i : TypeInfo => (i.zero, i.size, i.bytes)) = some (some (.agg zeroC), 7, 136) := by kernel_rfl
/-- the box of a command that is being built, and its result's block -/
structure BoxAt (x : Cx) (w0 w : World) (s : PS) (bx : Nat) (vals : Array Value) : Prop where
  ps : PsAt w x s
  gr : Gr x w0 w
  res : w.heap[w0.heap.size]? = some (.cells zeroC 28 (0, 0))
  box : w.heap[bx]? = some (.cells vals 28 (0, 0))
  lo : w0.heap.size < bx
theorem BoxAt.call {x : Cx} {w0 w w' : World} {s s' : PS} {bx : Nat} {vals : Array Value} (h : BoxAt x w0 w s bx vals) (hG : Gr x w w') (hP : PsAt w' x s') (hA : x.A < w0.heap.size) : BoxAt x w0 w' s' bx vals :=
  ⟨hP, h.gr.trans hG, hG.blk (by omega) h.res, hG.blk (by have := h.lo; omega) h.box, h.lo⟩
theorem BoxAt.drew {x : Cx} {w0 w : World} {s : PS} {bx : Nat} {vals : Array Value} (h : BoxAt x w0 w s bx vals) : BoxAt x w0 w.drew s bx vals :=
  ⟨h.ps.drew, h.gr.trans (Gr.drew x w), h.res, h.box, h.lo⟩
theorem BoxAt.below {x : Cx} {w0 w w' : World} {s : PS} {bx : Nat} {vals : Array Value} (h : BoxAt x w0 w s bx vals) (hb : Below w.heap.size w w') : BoxAt x w0 w' s bx vals :=
  ⟨h.ps.below hb, h.gr.trans (Gr.of_below hb), (hb.block _ (lt_of_block h.res)).trans h.res, (hb.block _ (lt_of_block h.box)).trans h.box, h.lo⟩
/-- a row of the command's is grown -/
theorem BoxAt.grown {x : Cx} {w0 w w' : World} {s : PS} {bx T : Nat} {vals : Array Value} {r : Option Nat} (h : BoxAt x w0 w s bx vals) (hg : w.grownBy w' r) (hT : T ≠ 73 ∧ T ≠ 60 ∧ T ≠ 3) (hr : ∀ b, r = some b → w0.heap.size < b ∧ b ≠ bx ∧ ∃ cur, w.heap[b]? = some (.cells cur T (0, 0))) : BoxAt x w0 w' s bx vals := by
  refine ⟨h.ps.grown hg fun b e => ?_, h.gr.grown hg fun b e => by have := (hr b e).1; omega, (hg.block _ (lt_of_block h.res) fun e => ?_).trans h.res, (hg.block _ (lt_of_block h.box) fun e => (hr _ e.symm).2.1 rfl).trans h.box, h.lo⟩
  · obtain ⟨_, _, cur, hc⟩ := hr b e
    exact ⟨cur, T, hc, hT⟩
  · have := (hr _ e.symm).1
    omega
/-- a field of the box is written -/
theorem BoxAt.set {x : Cx} {w0 w : World} {s : PS} {bx : Nat} {vals : Array Value} (h : BoxAt x w0 w s bx vals) (f : Nat) (v : Value) : BoxAt x w0 (w.setCell ⟨bx, f, none⟩ v) s bx (vals.setIfInBounds f v) := by
  have hg : w.grownBy (w.setCell ⟨bx, f, none⟩ v) (some bx) := grown_set ⟨rfl, rfl, rfl, Nat.le_refl _, fun _ _ _ => rfl⟩ f v
  have hlo := h.lo
  exact ⟨h.ps.grown hg fun b e => by cases e; exact ⟨_, _, h.box, by decide, by decide, by decide⟩, h.gr.grown hg fun b e => by cases e; omega, (hg.block _ (lt_of_block h.res) fun e => by have := Option.some.inj e; omega).trans h.res, set_block h.box f v, hlo⟩
theorem set_oth {w : World} {bx f b : Nat} {v : Value} (h : b ≠ bx) : (w.setCell ⟨bx, f, none⟩ v).heap[b]? = w.heap[b]? := Below.heap_setCell _ _ _ _ h
/-- kids of a box: none lies in the box -/
abbrev KS (w0 : World) (bx : Nat) : Nat → Prop := fun g => w0.heap.size + 1 ≤ g ∧ g ≠ bx
/-- a command that a call told becomes a kid -/
theorem push_kid {x : Cx} {w0 w2 w3 w4 : World} {s : PS} {bx g cap : Nat} {v0 v1 v2 v3 v4 v6 kv : Value} {kc : List (List Value)} {ks : List Cd} {c : Cd} {u0 u1 u2 u3 u4 u5 u6 : Value}
    (hB : BoxAt x w0 w3 s bx #[v0, v1, v2, v3, v4, kv, v6]) (hK : KidsS w2 (KS w0 bx) kv kc ks) (hG : Gr x w2 w3) (hA : x.A < w0.heap.size) (hbx : bx < w2.heap.size) (hc : CdAt w3 (fun g => w2.heap.size ≤ g) [u0, u1, u2, u3, u4, u5, u6] c)
    (ho : w4.ownsRow 0 28 7 (.slice (some ⟨g, 0, none⟩) (ks.length + 1) cap) (ks.length + 1) (kc.flatten ++ [u0, u1, u2, u3, u4, u5, u6])) (hg : (w3.alloc (.cells #[u0, u1, u2, u3, u4, u5, u6] 28)).grownBy w4 kv.ownBlock) (hat : kv.ownBlock = some g ∨ g = (w3.alloc (.cells #[u0, u1, u2, u3, u4, u5, u6] 28)).heap.size) :
    BoxAt x w0 w4 s bx #[v0, v1, v2, v3, v4, kv, v6] ∧ BoxAt x w0 (w4.setCell ⟨bx, 5, none⟩ (.slice (some ⟨g, 0, none⟩) (ks.length + 1) cap)) s bx #[v0, v1, v2, v3, v4, .slice (some ⟨g, 0, none⟩) (ks.length + 1) cap, v6] ∧
      KidsS (w4.setCell ⟨bx, 5, none⟩ (.slice (some ⟨g, 0, none⟩) (ks.length + 1) cap)) (KS w0 bx) (.slice (some ⟨g, 0, none⟩) (ks.length + 1) cap) (kc ++ [[u0, u1, u2, u3, u4, u5, u6]]) (ks ++ [c]) := by
  have hb : Below w3.heap.size w3 (w3.alloc (.cells #[u0, u1, u2, u3, u4, u5, u6] 28)) := (Below.refl _ _).alloc (Nat.le_refl _) _
  have hs : (w3.alloc (.cells #[u0, u1, u2, u3, u4, u5, u6] 28)).heap.size = w3.heap.size + 1 := by simp
  generalize w3.alloc (.cells #[u0, u1, u2, u3, u4, u5, u6] 28) = W at *
  have hs2 := hG.size
  have hlo := hB.lo
  have hKW : KidsS W (KS w0 bx) kv kc ks := (hK.kept fun g' hg' hl => hG.block g' hl fun e => by have := Option.some.inj e; have := hg'.1; omega).kept fun g' _ hl => hb.block g' hl
  have hlt := hK.lt
  have hcW : CdAt W (fun g => KS w0 bx g ∧ kv.ownBlock ≠ some g) [u0, u1, u2, u3, u4, u5, u6] c := (hc.kept fun g' _ hl => hb.block g' hl).mono fun g' h1 _ => ⟨⟨by omega, by omega⟩, fun e => by have := (hlt g' e).2; omega⟩
  have hK4 := hKW.push hcW ⟨by omega, by omega⟩ ho hg hat
  have hB4 : BoxAt x w0 w4 s bx #[v0, v1, v2, v3, v4, kv, v6] := (hB.below hb).grown hg (T := 28) (by decide) fun b e => by
    obtain ⟨h1, cur, h2⟩ := hKW.row.blk b e
    exact ⟨by have := h1.1; omega, h1.2, cur, h2⟩
  refine ⟨hB4, hB4.set 5 _, hK4.kept fun g' hg' _ => set_oth hg'.2⟩
end Go.Proofs.YtcemlhfodpelaaaGreatDoor
