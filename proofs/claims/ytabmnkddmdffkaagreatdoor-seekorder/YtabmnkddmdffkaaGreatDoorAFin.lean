/- The contracts of seek.Find and seek.Split. -/
import Derived.Test.YtabmnkddmdffkaaGreatDoorAFnd
namespace Go.Proofs.YtabmnkddmdffkaaGreatDoor.Sk
open Go.RowKit Go.Shelf

/-- where a file is -/
def fndP (t : Bs → Option Int) (L : List Prw) (nm dr : List UInt8) : Bs × Bool :=
  match frst t (plL L nm dr) with
  | some p => (p, true)
  | none => (nm, false)
theorem plL_short (L : List Prw) (nm dr : List UInt8) (hn : nm.length ≤ 100000) (hd : dr.length ≤ 100000) (hl : ∀ p ∈ L, p.2.size ≤ 100000) : ∀ y ∈ plL L nm dr, y.length ≤ 300000 := by
  intro y hy
  unfold plL at hy
  rcases List.mem_cons.1 hy with rfl | h
  · omega
  · split at h
    · cases h
    · obtain ⟨d, hd1, rfl⟩ := List.mem_map.1 h
      have h1 := dirL_short L nm dr 100000 hd hl d hd1
      unfold jnP
      have h2 := clean_len (d ++ 47 :: nm)
      rw [List.length_append, List.length_cons] at h2
      omega
theorem fndP_short (t : Bs → Option Int) (L : List Prw) (nm dr : List UInt8) (hn : nm.length ≤ 100000) (hd : dr.length ≤ 100000) (hl : ∀ p ∈ L, p.2.size ≤ 100000) : (fndP t L nm dr).1.length ≤ 300000 := by
  unfold fndP
  cases h : frst t (plL L nm dr) with
  | none => simp only; omega
  | some p => exact plL_short L nm dr hn hd hl p (List.mem_of_find?_eq_some h)

set_option maxRecDepth 100000 in
set_option maxHeartbeats 1000000 in
theorem Find_any (B A : Nat) (Ea E : Addr) (a : Option Addr) (m cap : Nat) (L : List Prw) (name dirs : ByteArray) (t : Bs → Option Int) (hm : m ≤ 1000000) (hns : name.size ≤ 100000) (hds : dirs.size ≤ 100000) (hls : ∀ p ∈ L, p.1.size ≤ 100000 ∧ p.2.size ≤ 100000) (w : World) (hG : Gl B w Ea E) (hB : B ≤ w.heap.size)
    (hp : Prs w a m L)
    (hCh : ∀ (x : Tx.Wd) w1, Tx.bytesOf x ∈ plL L (tl name) (tl dirs) → Below w.heap.size w w1 → Calls Tryz.prog 34 #[.pointer (some ⟨A, 0, none⟩), .string x.1] w1 fun e w' => ChV w' Ea e (t (Tx.bytesOf x)) ∧ Below w1.heap.size w1 w') :
    Calls Tryz.prog 10 #[.agg (bsC a m cap), .string dirs, .pointer (some ⟨A, 0, none⟩), .string name] w fun e w' => e = .returned (.tuple #[.string (mk (fndP t L (tl name) (tl dirs)).1), .bool (fndP t L (tl name) (tl dirs)).2]) ∧ Below w.heap.size w w' := by
  obtain ⟨w1, hw1⟩ : ∃ w1, w1 = w.alloc (.cells (bsC a m cap) 43) := ⟨_, rfl⟩
  have hb1 : Below w.heap.size w w1 := by rw [hw1]; exact (Below.refl _ _).alloc (Nat.le_refl _) _
  have hl1 := Lies.below hb1
  have q1 := places_any a m cap dirs name w1
  obtain ⟨w2, hw2⟩ : ∃ w2, w2 = box3 w1 a m cap dirs name := ⟨_, rfl⟩
  have hw2' : ((w1.alloc (Obj.cells (bsC a m cap) 43)).alloc (Obj.cells #[Value.string dirs] 9)).alloc (Obj.cells #[Value.string name] 9) = w2 := hw2.symm
  rw [hw2'] at q1
  have hb2 : Below w1.heap.size w1 w2 := by rw [hw2]; exact box3_below _ _ _ _ _ _
  have hD2 : DrC w2 w1.heap.size (w1.heap.size + 1 + 1) (w1.heap.size + 1) a m cap L name dirs := by rw [hw2]; exact box3_drc _ _ _ _ _ _ _ (hp.lies hl1) (hG.mx.lies hl1)
  have hbw : Below w.heap.size w w2 := hb1.trans (hb2.mono hb1.size)
  have hG2 : Gl B w2 Ea E := hG.keep (hbw.mono hB)
  have q2 := found_any B A Ea E #[.pointer (some ⟨w1.heap.size + 1 + 1, 0, none⟩), .pointer (some ⟨w1.heap.size, 0, none⟩), .pointer (some ⟨w1.heap.size + 1, 0, none⟩)] (plL L (tl name) (tl dirs)) t name w2 hG2 (Nat.le_trans hB hbw.size)
    (fun w3 hb3 => places_seq 5 (by decide) w1.heap.size (w1.heap.size + 1 + 1) (w1.heap.size + 1) a m cap L name dirs hm hns hds hls w3 (hD2.lies (Lies.below hb3)))
    (fun x w3 hx hb3 => hCh x w3 hx (hbw.trans (hb3.mono hbw.size)))
  have cb0 : w1.cell? ⟨w.heap.size, 0, none⟩ = some (.slice none 0 0) := by rw [hw1, Lib.cell_of_heap (World.alloc_heap_new w _)]; rfl
  have cb1 : w1.cell? ⟨w.heap.size, 1, none⟩ = some (.slice none 0 0) := by rw [hw1, Lib.cell_of_heap (World.alloc_heap_new w _)]; rfl
  have cb2 : w1.cell? ⟨w.heap.size, 2, none⟩ = some (.slice a m cap) := by rw [hw1, Lib.cell_of_heap (World.alloc_heap_new w _)]; rfl
  have cb3 : w1.cell? ⟨w.heap.size, 3, none⟩ = some (.slice none 0 0) := by rw [hw1, Lib.cell_of_heap (World.alloc_heap_new w _)]; rfl
  have cb4 : w1.cell? ⟨w.heap.size, 4, none⟩ = some (.slice none 0 0) := by rw [hw1, Lib.cell_of_heap (World.alloc_heap_new w _)]; rfl
  have cb5 : w1.cell? ⟨w.heap.size, 5, none⟩ = some (.string ⟨#[]⟩) := by rw [hw1, Lib.cell_of_heap (World.alloc_heap_new w _)]; rfl
  have cb6 : w1.cell? ⟨w.heap.size, 6, none⟩ = some (.slice none 0 0) := by rw [hw1, Lib.cell_of_heap (World.alloc_heap_new w _)]; rfl
  have hsh := fndP_short t L (tl name) (tl dirs) (by rw [tl_len]; exact hns) (by rw [tl_len]; exact hds) (fun p hp => (hls p hp).2)
  have HG2 := hide' hG2
  have hnl : (tl name).length ≤ 100000 := by rw [tl_len]; exact hns
  obtain ⟨fp, hfp⟩ : ∃ fp, fp = fndP t L (tl name) (tl dirs) := ⟨_, rfl⟩
  rw [← hfp] at hsh
  rw [← hfp]
  unfold fndP at hfp
  have hmn : mk (tl name) = name := rfl
  have hs1 : w1.heap.size = w.heap.size + 1 := by rw [hw1]; simp
  rw [hs1] at q1 q2
  have hbw2 := hbw.size
  cases hf : frst t (plL L (tl name) (tl dirs)) with
  | some p =>
    rw [hf] at q2 hfp
    have hfp1 : fp.1 = p := by rw [hfp]
    have hfp2 : fp.2 = true := by rw [hfp]
    rw [hfp1] at hsh
    have HF1 := hide' hfp1
    have HF2 := hide' hfp2
    have q3 := fun w3 => clone_any (mk p) w3 (by rw [mk_size]; omega)
    rw [hw1] at cb0 cb1 cb2 cb3 cb4 cb5 cb6 q1
    clear hf hfp hfp1 hfp2 hD2 hG2 hw2' hw2 hw1 hl1 hp hG hCh hb1 hb2 hs1
    go_enter Tryz.func10, Tryz.ntmps10
    go_wp2_with fail
    refine q1.mono ?_
    rintro e w' ⟨rfl, hww⟩
    rw [hww]
    clear hww q1 cb0 cb1 cb2 cb3 cb4 cb5 cb6
    go_wp2_with fail
    refine q2.mono ?_
    rintro e w3 ⟨rfl, hb3⟩
    have ca := (HG2.out.keep (hb3.mono (by omega))).ca
    clear q2
    go_wp2_with (go_at_call 29; refine (is_nil Ea w3).mono ?_; rintro e w' ⟨rfl, rfl⟩)
    refine (q3 _).mono ?_
    rintro e w4 ⟨rfl, hb4⟩
    go_wp2_with fail
    refine bodyPost_ret (by simp [results, Tryz.results10, go_sem]; rfl) rfl ?_
    rw [HF1.out, HF2.out]
    exact ⟨rfl, (hbw.trans (hb3.mono hbw.size)).trans (hb4.mono (by have := hb3.size; omega))⟩
  | none =>
    rw [hf] at q2 hfp
    have hfp1 : fp.1 = tl name := by rw [hfp]
    have hfp2 : fp.2 = false := by rw [hfp]
    have HF1 := hide' hfp1
    have HF2 := hide' hfp2
    have q3 := fun w3 => clone_any name w3 (by omega)
    rw [hw1] at cb0 cb1 cb2 cb3 cb4 cb5 cb6 q1
    clear hf hfp hfp1 hfp2 hD2 hG2 hw2' hw2 hw1 hl1 hp hG hCh hb1 hb2 hs1
    go_enter Tryz.func10, Tryz.ntmps10
    go_wp2_with fail
    refine q1.mono ?_
    rintro e w' ⟨rfl, hww⟩
    rw [hww]
    clear hww q1 cb0 cb1 cb2 cb3 cb4 cb5 cb6
    go_wp2_with fail
    refine q2.mono ?_
    rintro e w3 ⟨⟨v, rfl, hv⟩, hb3⟩
    have ca := (HG2.out.keep (hb3.mono (by omega))).ca
    have q4 := is_ab Ea v w3 hv
    clear q2 hv
    go_wp2_with (go_at_call 29; refine q4.mono ?_; rintro e w' ⟨rfl, rfl⟩)
    refine (q3 _).mono ?_
    rintro e w4 ⟨rfl, hb4⟩
    go_wp2_with fail
    refine bodyPost_ret (by simp [results, Tryz.results10, go_sem]; rfl) rfl ?_
    rw [HF1.out, HF2.out]
    exact ⟨rfl, (hbw.trans (hb3.mono hbw.size)).trans (hb4.mono (by have := hb3.size; omega))⟩
theorem Split_any (s : ByteArray) (hs : s.size ≤ 1000000) (w : World) :
    Calls Tryz.prog 14 #[.string s] w fun e w' => e = .returned (prV (tl s)) ∧ Below w.heap.size w w' := by
  have q := parted_any s hs w
  have hlen : (pA (tl s)).length ≤ 1000000 ∧ (pM (tl s)).length ≤ 1000000 := by
    have h1 : (bod (tl s)).length ≤ 1000000 := by unfold bod; rw [List.length_dropLast, tl_len]; omega
    unfold pA pM
    constructor <;> split <;> simp <;> omega
  obtain ⟨xa, hxa⟩ : ∃ xa, xa = mk (pA (tl s)) := ⟨_, rfl⟩
  obtain ⟨xm, hxm⟩ : ∃ xm, xm = mk (pM (tl s)) := ⟨_, rfl⟩
  obtain ⟨b, hb⟩ : ∃ b, b = isM (tl s) := ⟨_, rfl⟩
  have ha : xa.size ≤ 1000000 := by rw [hxa, mk_size]; exact hlen.1
  have hm : xm.size ≤ 1000000 := by rw [hxm, mk_size]; exact hlen.2
  unfold prV at q ⊢
  rw [← hxa, ← hxm, ← hb] at q ⊢
  have q1 := fun w => clone_any xa w (by omega)
  have q2 := fun w => clone_any xm w (by omega)
  clear hxa hxm hb hlen
  go_enter Tryz.func14, Tryz.ntmps14
  go_wp2_with fail
  refine q.mono ?_
  rintro e w1 ⟨rfl, hb1⟩
  go_wp2_with fail
  refine (q1 _).mono ?_
  rintro e w2 ⟨rfl, hb2⟩
  go_wp2_with fail
  refine (q2 _).mono ?_
  rintro e w3 ⟨rfl, hb3⟩
  go_wp2_with fail
  refine bodyPost_ret (by simp [results, Tryz.results14, go_sem]; rfl) rfl ?_
  exact ⟨rfl, (hb1.trans (hb2.mono hb1.size)).trans (hb3.mono (by have := hb1.size; have := hb2.size; omega))⟩
end Go.Proofs.YtabmnkddmdffkaaGreatDoor.Sk
