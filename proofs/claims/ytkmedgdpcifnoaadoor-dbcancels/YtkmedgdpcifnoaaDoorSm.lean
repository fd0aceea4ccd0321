/- The base that alive plays with. -/
import Derived.Test.YtkmedgdpcifnoaaDoorSp
import Derived.Test.YtkmedgdpcifnoaaDoorNew
import Derived.Deep.QuietTactic
import Derived.Deep.Cut
import Derived.Deep.CutBlock
namespace Go.Proofs.YtkmedgdpcifnoaaDoor
open Go.RowKit Go.Shelf

theorem lit_row (W : World) (n : Nat) (hn : W.heap.size = n) (x : Bs) (y : ByteArray) (hy : y = mk x) : Strs (W.alloc (.cells #[.string y] 9)) (.slice (some ⟨n, 0, none⟩) 1 1) [x] ∧ (W.alloc (.cells #[.string y] 9)).heap.size = n + 1 ∧ Below W.heap.size W (W.alloc (.cells #[.string y] 9)) := by
  subst hn
  exact ⟨Strs.of_row (one_row W W.heap.size x y (Nat.le_refl _) hy), World.size_alloc _ _, below_alloc (Below.refl _ W) (Nat.le_refl _) _⟩
theorem three_rows (W : World) (n b : Nat) (hb : W.heap[b]? = some (.cells #[.slice (some ⟨n + 1, 0, none⟩) 1 1, .slice none 0 0, .slice none 0 0, .bool false, .bool false, .bool false, .string ⟨#[]⟩, .slice (some ⟨n + 1 + 1, 0, none⟩) 1 1, .bool true, .string ⟨#[]⟩, .bool false, .slice (some ⟨n + 1 + 1 + 1, 0, none⟩) 1 1, .slice (some ⟨n + 1 + 1 + 1 + 1, 0, none⟩) 1 1, .slice none 0 0, .bool false, .bool false, .bool false, .string ⟨#[]⟩, .slice none 0 0, .bool false, .string ⟨#[]⟩, .bool false, .slice (some ⟨n + 1 + 1 + 1 + 1 + 1, 0, none⟩) 1 1, .slice (some ⟨n + 1 + 1 + 1 + 1 + 1 + 1, 0, none⟩) 1 1, .slice none 0 0, .bool false, .bool false, .bool false, .string ⟨#[]⟩, .slice none 0 0, .bool false, .string ⟨#[]⟩, .bool false] 43 (0, 0))) (x1 x2 x3 x4 x5 x6 : Bs) (h1 : Strs W (.slice (some ⟨n + 1, 0, none⟩) 1 1) [x1]) (h2 : Strs W (.slice (some ⟨n + 1 + 1, 0, none⟩) 1 1) [x2]) (h3 : Strs W (.slice (some ⟨n + 1 + 1 + 1, 0, none⟩) 1 1) [x3])
    (h4 : Strs W (.slice (some ⟨n + 1 + 1 + 1 + 1, 0, none⟩) 1 1) [x4]) (h5 : Strs W (.slice (some ⟨n + 1 + 1 + 1 + 1 + 1, 0, none⟩) 1 1) [x5]) (h6 : Strs W (.slice (some ⟨n + 1 + 1 + 1 + 1 + 1 + 1, 0, none⟩) 1 1) [x6]) :
    ∃ L, Rls W (.slice (some ⟨b, 0, none⟩) 3 3) L ∧ rs L = [⟨[x1], [], [], false, false, false, [], [x2], true, [], false⟩, ⟨[x3], [x4], [], false, false, false, [], [], false, [], false⟩, ⟨[x5], [x6], [], false, false, false, [], [], false, [], false⟩] := by
  have nl : Strs W (.slice none 0 0) [] := Strs.nil W
  refine ⟨[⟨⟨[x1], [], [], false, false, false, [], [x2], true, [], false⟩, .slice (some ⟨n + 1, 0, none⟩) 1 1, .slice none 0 0, .slice none 0 0, .slice (some ⟨n + 1 + 1, 0, none⟩) 1 1⟩,
    ⟨⟨[x3], [x4], [], false, false, false, [], [], false, [], false⟩, .slice (some ⟨n + 1 + 1 + 1, 0, none⟩) 1 1, .slice (some ⟨n + 1 + 1 + 1 + 1, 0, none⟩) 1 1, .slice none 0 0, .slice none 0 0⟩,
    ⟨⟨[x5], [x6], [], false, false, false, [], [], false, [], false⟩, .slice (some ⟨n + 1 + 1 + 1 + 1 + 1, 0, none⟩) 1 1, .slice (some ⟨n + 1 + 1 + 1 + 1 + 1 + 1, 0, none⟩) 1 1, .slice none 0 0, .slice none 0 0⟩], ⟨.inr ⟨b, 0, 3, rfl, lt_of_block hb, fun j hj => ?_⟩, fun x hx => ?_⟩, rfl⟩
  · have hj3 : j < 3 := hj
    rcases (show j = 0 ∨ j = 1 ∨ j = 2 by omega) with rfl | rfl | rfl <;> exact ⟨by rw [Lib.cell_of_heap hb]; rfl, by rw [Lib.cell_of_heap hb]; rfl, by rw [Lib.cell_of_heap hb]; rfl, by rw [Lib.cell_of_heap hb]; rfl, by rw [Lib.cell_of_heap hb]; rfl, by rw [Lib.cell_of_heap hb]; rfl, by rw [Lib.cell_of_heap hb]; rfl, by rw [Lib.cell_of_heap hb]; rfl, by rw [Lib.cell_of_heap hb]; rfl, by rw [Lib.cell_of_heap hb]; rfl, by rw [Lib.cell_of_heap hb]; rfl⟩
  · rcases (by simpa using hx) with rfl | rfl | rfl
    · exact ⟨h1, nl, nl, h2⟩
    · exact ⟨h3, h4, nl, nl⟩
    · exact ⟨h5, h6, nl, nl⟩
set_option maxRecDepth 100000 in
set_option maxHeartbeats 4000000 in
theorem small_any (w : World) : Calls Tryd.prog 26 #[] w fun e w' => ∃ v, e = .returned (baseV v) ∧ ∃ L, Rls w' v L ∧ rs L = exR ∧ Below w.heap.size w w' := by
  go_enter Tryd.func26, Tryd.ntmps26
  go_wp2
  generalize hn : w.heap.size = n
  have hb0 : Below n w (w.alloc (.cells #[.slice (some ⟨n + 1 + 1 + 1 + 1 + 1 + 1 + 1, 0, none⟩) 3 3, .slice none 0 0, .slice none 0 0, .slice none 0 0, .slice none 0 0, .string ⟨#[]⟩, .slice none 0 0] 28)) := below_alloc (Below.refl _ w) (by omega) _
  have hR : (w.alloc (.cells #[.slice (some ⟨n + 1 + 1 + 1 + 1 + 1 + 1 + 1, 0, none⟩) 3 3, .slice none 0 0, .slice none 0 0, .slice none 0 0, .slice none 0 0, .string ⟨#[]⟩, .slice none 0 0] 28)).heap[n]? = some (.cells #[.slice (some ⟨n + 1 + 1 + 1 + 1 + 1 + 1 + 1, 0, none⟩) 3 3, .slice none 0 0, .slice none 0 0, .slice none 0 0, .slice none 0 0, .string ⟨#[]⟩, .slice none 0 0] 28 (0, 0)) := by
    rw [← hn]; exact heap_alloc_new w _
  have s0 : (w.alloc (.cells #[.slice (some ⟨n + 1 + 1 + 1 + 1 + 1 + 1 + 1, 0, none⟩) 3 3, .slice none 0 0, .slice none 0 0, .slice none 0 0, .slice none 0 0, .string ⟨#[]⟩, .slice none 0 0] 28)).heap.size = n + 1 := by rw [World.size_alloc, hn]
  generalize w.alloc (.cells #[.slice (some ⟨n + 1 + 1 + 1 + 1 + 1 + 1 + 1, 0, none⟩) 3 3, .slice none 0 0, .slice none 0 0, .slice none 0 0, .slice none 0 0, .string ⟨#[]⟩, .slice none 0 0] 28) = W0 at hb0 hR s0 ⊢
  obtain ⟨r1, s1, b1⟩ := lit_row W0 _ s0 [46, 99, 46, 111] ⟨#[46, 99, 46, 111]⟩ rfl
  generalize W0.alloc (.cells #[.string ⟨#[46, 99, 46, 111]⟩] 9) = W1 at r1 s1 b1 ⊢
  obtain ⟨r2, s2, b2⟩ := lit_row W1 _ s1 [120] ⟨#[120]⟩ rfl
  generalize W1.alloc (.cells #[.string ⟨#[120]⟩] 9) = W2 at r2 s2 b2 ⊢
  obtain ⟨r3, s3, b3⟩ := lit_row W2 _ s2 [46, 80, 72, 79, 78, 89] ⟨#[46, 80, 72, 79, 78, 89]⟩ rfl
  generalize W2.alloc (.cells #[.string ⟨#[46, 80, 72, 79, 78, 89]⟩] 9) = W3 at r3 s3 b3 ⊢
  obtain ⟨r4, s4, b4⟩ := lit_row W3 _ s3 [97] ⟨#[97]⟩ rfl
  generalize W3.alloc (.cells #[.string ⟨#[97]⟩] 9) = W4 at r4 s4 b4 ⊢
  obtain ⟨r5, s5, b5⟩ := lit_row W4 _ s4 [97, 108, 108] ⟨#[97, 108, 108]⟩ rfl
  generalize W4.alloc (.cells #[.string ⟨#[97, 108, 108]⟩] 9) = W5 at r5 s5 b5 ⊢
  obtain ⟨r6, s6, b6⟩ := lit_row W5 _ s5 [98] ⟨#[98]⟩ rfl
  generalize W5.alloc (.cells #[.string ⟨#[98]⟩] 9) = W6 at r6 s6 b6 ⊢
  have hX : (W6.alloc (.cells #[.slice (some ⟨n + 1, 0, none⟩) 1 1, .slice none 0 0, .slice none 0 0, .bool false, .bool false, .bool false, .string ⟨#[]⟩, .slice (some ⟨n + 1 + 1, 0, none⟩) 1 1, .bool true, .string ⟨#[]⟩, .bool false, .slice (some ⟨n + 1 + 1 + 1, 0, none⟩) 1 1, .slice (some ⟨n + 1 + 1 + 1 + 1, 0, none⟩) 1 1, .slice none 0 0, .bool false, .bool false, .bool false, .string ⟨#[]⟩, .slice none 0 0, .bool false, .string ⟨#[]⟩, .bool false, .slice (some ⟨n + 1 + 1 + 1 + 1 + 1, 0, none⟩) 1 1, .slice (some ⟨n + 1 + 1 + 1 + 1 + 1 + 1, 0, none⟩) 1 1, .slice none 0 0, .bool false, .bool false, .bool false, .string ⟨#[]⟩, .slice none 0 0, .bool false, .string ⟨#[]⟩, .bool false] 43)).heap[n + 1 + 1 + 1 + 1 + 1 + 1 + 1]? = some (.cells #[.slice (some ⟨n + 1, 0, none⟩) 1 1, .slice none 0 0, .slice none 0 0, .bool false, .bool false, .bool false, .string ⟨#[]⟩, .slice (some ⟨n + 1 + 1, 0, none⟩) 1 1, .bool true, .string ⟨#[]⟩, .bool false, .slice (some ⟨n + 1 + 1 + 1, 0, none⟩) 1 1, .slice (some ⟨n + 1 + 1 + 1 + 1, 0, none⟩) 1 1, .slice none 0 0, .bool false, .bool false, .bool false, .string ⟨#[]⟩, .slice none 0 0, .bool false, .string ⟨#[]⟩, .bool false, .slice (some ⟨n + 1 + 1 + 1 + 1 + 1, 0, none⟩) 1 1, .slice (some ⟨n + 1 + 1 + 1 + 1 + 1 + 1, 0, none⟩) 1 1, .slice none 0 0, .bool false, .bool false, .bool false, .string ⟨#[]⟩, .slice none 0 0, .bool false, .string ⟨#[]⟩, .bool false] 43 (0, 0)) := by
    rw [← s6]; exact heap_alloc_new W6 _
  have b7 : Below W6.heap.size W6 (W6.alloc (.cells #[.slice (some ⟨n + 1, 0, none⟩) 1 1, .slice none 0 0, .slice none 0 0, .bool false, .bool false, .bool false, .string ⟨#[]⟩, .slice (some ⟨n + 1 + 1, 0, none⟩) 1 1, .bool true, .string ⟨#[]⟩, .bool false, .slice (some ⟨n + 1 + 1 + 1, 0, none⟩) 1 1, .slice (some ⟨n + 1 + 1 + 1 + 1, 0, none⟩) 1 1, .slice none 0 0, .bool false, .bool false, .bool false, .string ⟨#[]⟩, .slice none 0 0, .bool false, .string ⟨#[]⟩, .bool false, .slice (some ⟨n + 1 + 1 + 1 + 1 + 1, 0, none⟩) 1 1, .slice (some ⟨n + 1 + 1 + 1 + 1 + 1 + 1, 0, none⟩) 1 1, .slice none 0 0, .bool false, .bool false, .bool false, .string ⟨#[]⟩, .slice none 0 0, .bool false, .string ⟨#[]⟩, .bool false] 43)) := below_alloc (Below.refl _ W6) (Nat.le_refl _) _
  generalize W6.alloc (.cells #[.slice (some ⟨n + 1, 0, none⟩) 1 1, .slice none 0 0, .slice none 0 0, .bool false, .bool false, .bool false, .string ⟨#[]⟩, .slice (some ⟨n + 1 + 1, 0, none⟩) 1 1, .bool true, .string ⟨#[]⟩, .bool false, .slice (some ⟨n + 1 + 1 + 1, 0, none⟩) 1 1, .slice (some ⟨n + 1 + 1 + 1 + 1, 0, none⟩) 1 1, .slice none 0 0, .bool false, .bool false, .bool false, .string ⟨#[]⟩, .slice none 0 0, .bool false, .string ⟨#[]⟩, .bool false, .slice (some ⟨n + 1 + 1 + 1 + 1 + 1, 0, none⟩) 1 1, .slice (some ⟨n + 1 + 1 + 1 + 1 + 1 + 1, 0, none⟩) 1 1, .slice none 0 0, .bool false, .bool false, .bool false, .string ⟨#[]⟩, .slice none 0 0, .bool false, .string ⟨#[]⟩, .bool false] 43) = W7 at hX b7 ⊢
  obtain ⟨L, hL, hr⟩ := three_rows W7 n _ hX _ _ _ _ _ _ (r1.below (((((b2.trans (b3.mono b2.size)).trans (b4.mono (b2.trans (b3.mono b2.size)).size)).trans (b5.mono ((b2.trans (b3.mono b2.size)).trans (b4.mono (b2.trans (b3.mono b2.size)).size)).size)).trans (b6.mono (by omega))).trans (b7.mono (by omega)))) ((((r2.below b3).below b4).below b5).below b6 |>.below b7) (((r3.below b4).below b5).below b6 |>.below b7) ((r4.below b5).below b6 |>.below b7) ((r5.below b6).below b7) (r6.below b7)
  have hB : Below n w W7 := ((((((hb0.trans (b1.mono (by omega))).trans (b2.mono (by omega))).trans (b3.mono (by omega))).trans (b4.mono (by omega))).trans (b5.mono (by omega))).trans (b6.mono (by omega))).trans (b7.mono (by omega))
  have hR7 := (b7.block n (by omega)).trans ((b6.block n (by omega)).trans ((b5.block n (by omega)).trans ((b4.block n (by omega)).trans ((b3.block n (by omega)).trans ((b2.block n (by omega)).trans ((b1.block n (by omega)).trans hR))))))
  have e0 : ∀ i u, (#[.slice (some ⟨n + 1 + 1 + 1 + 1 + 1 + 1 + 1, 0, none⟩) 3 3, .slice none 0 0, .slice none 0 0, .slice none 0 0, .slice none 0 0, .string ⟨#[]⟩, .slice none 0 0] : Array Value)[i]? = some u → W7.cell? ⟨n, i, none⟩ = some u := fun i u hu => by rw [Lib.cell_of_heap hR7]; exact hu
  have q0 := e0 0 _ rfl
  have q1 := e0 1 _ rfl
  have q2 := e0 2 _ rfl
  have q3 := e0 3 _ rfl
  have q4 := e0 4 _ rfl
  have q5 := e0 5 _ rfl
  have q6 := e0 6 _ rfl
  refine bodyPost_ret (by simp [results, Tryd.results26, go_sem, q0, q1, q2, q3, q4, q5, q6]; rfl) rfl ?_
  exact ⟨_, rfl, L, hL, hr, hB⟩
end Go.Proofs.YtkmedgdpcifnoaaDoor
