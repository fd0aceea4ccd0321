/- The contract of (*FS).filled. -/
import Derived.Test.YtamohpcdchhbbaaGreatDoorKids
import Derived.Test.YtamohpcdchhbbaaGreatDoorLook2
namespace Go.Proofs.YtamohpcdchhbbaaGreatDoor
open Go.RowKit Go.Shelf Go.Maps
attribute [local go_sem] Oper.semAt_some

def FlI (w : World) (R : Nat) (pre : List Bs) (W : World) : Prop := pre = [] ∧ Below w.heap.size w W ∧ Boxed W R 4 (.bool false)
def FlX (w : World) (R : Nat) (c : Code) (pre : List Bs) (W : World) : Prop := c = .ret ∧ pre ≠ [] ∧ Below w.heap.size w W ∧ Boxed W R 4 (.bool true)
theorem flI_own {w : World} {R B : Nat} (hw : w.heap.size ≤ B) : OwnFrom B (FlI w R) := by
  intro s W W' row hs hg hr
  obtain ⟨h1, h2, h3⟩ := hs
  exact ⟨h1, h2.grown hg h2.size (fun k e => by have := (hr k e).1; omega), box_own h3 hg (fun r e => (hr r e).2)⟩
theorem flX_own {w : World} {R B : Nat} (hw : w.heap.size ≤ B) (c : Code) : OwnFrom B (FlX w R c) := by
  intro s W W' row hs hg hr
  obtain ⟨h1, h0, h2, h3⟩ := hs
  exact ⟨h1, h0, h2.grown hg h2.size (fun k e => by have := (hr k e).1; omega), box_own h3 hg (fun r e => (hr r e).2)⟩

set_option maxRecDepth 100000 in
set_option maxHeartbeats 2000000 in
theorem filled_any (A M : Nat) (L : Ents) (wt clk rm : Int) (p : Bs) (w : World) (h : FsAt w A M L wt clk rm) (hp : p.length ≤ 1000000) :
    Calls Tryz.prog 83 #[.pointer (some ⟨A, 0, none⟩), .string (mk p)] w fun r w' => r = .returned (.bool (!(kidNames L p).isEmpty)) ∧ Below w.heap.size w w' := by
  refine (callsIn_wide (n := 5)).1 ?_
  refine callsIn_of_wp_marks Tryz.func83 rfl trivial ?_ rfl
  simp only [Tryz.ntmps83, List.size_toArray, List.length_cons, List.length_nil, Nat.reduceAdd, Nat.reduceSub, Array.replicate_succ, Array.replicate_zero, List.push_toArray, List.append_toArray, List.nil_append, List.cons_append]
  gi_wp2_with (refine ⟨trivial, ?_⟩; gi_at_call 100; refine (callsIn_wide.2 (kids_any A p hp _)).mono ?_; rintro e w' ⟨rfl, rfl⟩)
  obtain ⟨W0, hW0⟩ : ∃ W0, W0 = ((w.alloc (.cells #[.bool false] 4)).alloc (.cells #[.pointer (some ⟨A, 0, none⟩)] 28)).alloc (.cells #[.string (mk (ahead p))] 9) := ⟨_, rfl⟩
  rw [← hW0]
  have hz0 : W0.heap.size = w.heap.size + 3 := by rw [hW0]; simp
  have hB0 : Below w.heap.size w W0 := by rw [hW0]; exact (((Below.refl _ w).alloc (Nat.le_refl _) _).alloc (by simp) _).alloc (by simp; omega) _
  have bR : Boxed W0 w.heap.size 4 (.bool false) := by rw [hW0]; exact ((Boxed.new w 4 _).alloc _).alloc _
  have bF : Boxed W0 (w.heap.size + 1) 28 (.pointer (some ⟨A, 0, none⟩)) := by
    have := (Boxed.new (w.alloc (.cells #[.bool false] 4)) 28 (.pointer (some ⟨A, 0, none⟩))).alloc (.cells #[.string (mk (ahead p))] 9)
    rw [World.size_alloc] at this
    rw [hW0]; exact this
  have bA : Boxed W0 (w.heap.size + 1 + 1) 9 (.string (mk (ahead p))) := by
    have := Boxed.new ((w.alloc (.cells #[.bool false] 4)).alloc (.cells #[.pointer (some ⟨A, 0, none⟩)] 28)) 9 (.string (mk (ahead p)))
    rw [World.size_alloc, World.size_alloc] at this
    rw [hW0]; exact this
  have hF0 := h.below hB0
  have hE : ∀ W', Kf w.heap.size W0.heap.size W0 W' → W'.cell? ⟨w.heap.size + 1 + 1, 0, none⟩ = some (.string (mk (ahead p))) := fun W' h => (kf_box h bA (by omega) (by omega)).cell
  clear hW0 bA
  refine wpIn_rangeFunc_ownG rfl (by decide) (gf := 121) (lb := #[.pointer (some ⟨w.heap.size + 1, 0, none⟩), .pointer (some ⟨w.heap.size + 1 + 1, 0, none⟩)]) rfl trivial (enters_of Tryz.func121 (by kernel_rfl) rfl)
    (kids_stops 4 (by decide) w.heap.size W0.heap.size (w.heap.size + 1) (w.heap.size + 1 + 1) A M L p wt clk rm h.keys W0 (Nat.le_refl _) bF.cell (by omega) hE hF0.fb hF0.mp) (fun h k => Kw.t h k) (fun W l o o' hl ho _ hw => ⟨Kf.b W l o' hl, walksK_b (w := W0) W l o o' hl ho (by assumption) hw⟩) (Below.refl _ _) (fun _ => rfl)
    (FlI w w.heap.size) (FlX w w.heap.size) (flI_own (by omega)) (flX_own (by omega))
    ⟨rfl, hB0, bR⟩
    (fun x => { tmps := #[.pointer (some ⟨A, 0, none⟩), .string (mk p), undef, undef, .pointer (some ⟨w.heap.size, 0, none⟩), .pointer (some ⟨A, 0, none⟩), .string (mk p), .func (.func 121) #[] #[.pointer (some ⟨w.heap.size + 1, 0, none⟩), .pointer (some ⟨w.heap.size + 1 + 1, 0, none⟩)], encStr x], defers := [] }) ?assign ?body ?done ?stop
  case assign =>
    intro l x W K hK
    gi_wp2
    simpa using hK
  case body =>
    rintro l pre x W ⟨hpre, hBW, hbr⟩ hlt
    have c0 := hbr.cell
    have f0 := hbr.frozen
    gi_wp2
    exact ⟨(KeepsOthers.setCell _ _ _).from _, rfl, by simp, hBW.setCell (p := ⟨w.heap.size, 0, none⟩) (Nat.le_refl _) _, hbr.set _⟩
  case done =>
    rintro D ys W hD hys ⟨hpre, hBW, hbr⟩ hK
    subst hpre
    have hk : kidNames L p = [] := List.nil_perm.1 hys
    have c0 := hbr.cell
    have f0 := hbr.frozen
    gi_wp2
    have hb' : Boxed (W.setCell ⟨w.heap.size, 0, none⟩ (.bool false)) w.heap.size 4 (.bool false) := hbr.set _
    have hK' : (W.setCell ⟨w.heap.size, 0, none⟩ (.bool false)).heap[D]? = some (.deferred (some [])) := (Below.heap_setCell _ _ _ _ (by show D ≠ w.heap.size; omega)).trans hK
    have hB' : Below w.heap.size w (W.setCell ⟨w.heap.size, 0, none⟩ (.bool false)) := hBW.setCell (p := ⟨w.heap.size, 0, none⟩) (Nat.le_refl _) _
    generalize W.setCell ⟨w.heap.size, 0, none⟩ (.bool false) = X at hb' hK' hB'
    refine ⟨by simp, .inl ⟨_, _, rfl, run_takeDeferred hK', ?_⟩⟩
    have hbr2 := box_own hb' (grownBy_putObj' X D (.deferred none)) (fun r e => by cases e; exact ⟨_, hK', rfl⟩)
    have c2 := hbr2.cell
    refine ⟨.bool false, by simp [results, Tryz.results83, go_sem, c2], ?_, hB'.grown (grownBy_putObj' X D (.deferred none)) hB'.size (fun k e => by cases e; omega)⟩
    rw [hk]; rfl
  case stop =>
    rintro D c pre W hD hpre ⟨rfl, hne, hBW, hbr⟩ hK
    gi_wp2
    refine ⟨by simp, .inl ⟨_, _, rfl, run_takeDeferred hK, ?_⟩⟩
    have hbr2 := box_own hbr (grownBy_putObj' W D (.deferred none)) (fun r e => by cases e; exact ⟨_, hK, rfl⟩)
    have c2 := hbr2.cell
    refine ⟨.bool true, by simp [results, Tryz.results83, go_sem, c2], ?_, hBW.grown (grownBy_putObj' W D (.deferred none)) hBW.size (fun k e => by cases e; omega)⟩
    cases pre with
    | nil => exact absurd rfl hne
    | cons x r =>
      have := hpre x (by simp)
      cases hk : kidNames L p with
      | nil => rw [hk] at this; cases this
      | cons _ _ => rfl
end Go.Proofs.YtamohpcdchhbbaaGreatDoor
