/- The walk of the law ArPuts. -/
import Derived.Test.YtcijjigafcpcpaaGreatDoorPm
import Derived.Test.YtcijjigafcpcpaaGreatDoorPp
import Derived.Test.YtcijjigafcpcpaaGreatDoorBig
import Derived.Test.YtcijjigafcpcpaaGreatDoorStay
import Derived.Test.YtcijjigafcpcpaaGreatDoorAlive
import Derived.Deep.QuietTactic
import Derived.BigQuiet
namespace Go.Proofs.YtcijjigafcpcpaaGreatDoor
open Go.RowKit Go.Maps

theorem one_mem (w : World) (p : Bs) (t : Int) (da : Option Addr) (dc : Nat) (x : Bs) (hx : Rds w (.slice da x.length dc) x) :
    Mems (w.alloc (.cells #[.string (mk p), .int .i64 t, .slice da x.length dc] 37)) (.slice (some ⟨w.heap.size, 0, none⟩) 1 1) [⟨p, t, .slice da x.length dc, x⟩] := by
  have z := alloc_new w (.cells #[.string (mk p), .int .i64 t, .slice da x.length dc] 37)
  refine .inr ⟨w.heap.size, 0, 1, rfl, Nat.le_refl _, ⟨lt_of_block z, fun i n hi => ?_, fun i n hi => ?_, fun i n hi => ?_⟩, fun n hn => ?_⟩
  iterate 3
    · rcases i with _ | i
      · cases hi; rw [Lib.cell_of_heap z]; rfl
      · simp at hi
  · rw [List.mem_singleton.1 hn]
    exact hx.below ((Below.refl _ _).alloc (Nat.le_refl _) _)
set_option maxRecDepth 100000 in
set_option maxHeartbeats 8000000 in
theorem puts_any' (sa : Option Addr) (cap : Nat) (ns : List Mv) (p : Bs) (t : Int) (da : Option Addr) (dc : Nat) (x : Bs) (w : World) (hE : Env w) (h11 : 2 ≤ w.heap.size) (hM : Mems w (.slice sa ns.length cap) ns) (hx : Rds w (.slice da x.length dc) x)
    (hl : ns.length ≤ 140737488355328) (hlim : ∀ n ∈ ns, n.data.length ≤ 140737488355328 ∧ n.name.length ≤ 140737488355328) (hxl : x.length ≤ 140737488355328) (hpl : p.length ≤ 140737488355328) :
    Calls Tryz.prog 6 #[.slice sa ns.length cap, .agg #[.string (mk p), .int .i64 t, .slice da x.length dc]] w fun r w' => r = .returned (.bool true) ∧ Below w.heap.size w w' := by
  have hb0 : Below w.heap.size w (w.alloc (.cells #[.string (mk p), .int .i64 t, .slice da x.length dc] 37)) := (Below.refl _ _).alloc (Nat.le_refl _) _
  have z0 := alloc_new w (.cells #[.string (mk p), .int .i64 t, .slice da x.length dc] 37)
  have qa := alive_any _ (hE.keep hb0 (by omega)) (by rw [size_alloc']; omega)
  go_enter Tryz.func6, Tryz.ntmps6
  go_wp2_with fail
  refine qa.mono ?_
  rintro r w1 ⟨rfl, hb1⟩
  obtain ⟨w0, hw0⟩ : ∃ w0, w0 = w.alloc (.cells #[.string (mk p), .int .i64 t, .slice da x.length dc] 37) := ⟨_, rfl⟩
  rw [← hw0] at hb0 z0 hb1
  have hs0 : w.heap.size + 1 ≤ w0.heap.size := by rw [hw0]; simp
  clear hw0 qa
  have hB1 := hb0.trans (hb1.mono hb0.size)
  have hs1 := hb1.size
  have z1 := (hb1.block _ (by omega)).trans z0
  have qb := big_any _ ns w1 (hM.below hB1) hl hlim
  dsimp only
  go_wp2_with fail
  refine qb.mono ?_
  rintro r w2 ⟨⟨b1, rfl, hbig⟩, hb2⟩
  dsimp only
  have hB2 := hB1.trans (hb2.mono hB1.size)
  have hs2 := hb2.size
  have z2 := (hb2.block _ (by omega)).trans z1
  clear qb
  cases b1 with
  | true =>
    clear hbig z1 z2 hb1 hb2 z0 hb0 hM hx hlim hE
    go_wp2
    go_ret
    exact ⟨rfl, hB2⟩
  | false =>
    have hbig := hbig rfl
    have m0 : w2.cell? ⟨w.heap.size, 0, none⟩ = some (.string (mk p)) := by rw [Lib.cell_of_heap z2]; rfl
    have m1 : w2.cell? ⟨w.heap.size, 1, none⟩ = some (.int .i64 t) := by rw [Lib.cell_of_heap z2]; rfl
    have m2 : w2.cell? ⟨w.heap.size, 2, none⟩ = some (.slice da x.length dc) := by rw [Lib.cell_of_heap z2]; rfl
    have hb3 : Below w2.heap.size w2 (w2.alloc (.cells #[.string (mk p), .int .i64 t, .slice da x.length dc] 37)) := (Below.refl _ _).alloc (Nat.le_refl _) _
    have qb := big_any _ [⟨p, t, .slice da x.length dc, x⟩] _ (one_mem w2 p t da dc x (hx.below hB2)) (by simp) (fun n hn => by rw [List.mem_singleton.1 hn]; exact ⟨hxl, hpl⟩)
    have HK := hide' (And.intro hbig (And.intro z2 (And.intro hM (And.intro hx (And.intro hb3 hB2)))))
    clear hbig z1 z2 hb1 hb2 z0 hb0 hM hx hlim hE hB1 hB2 hb3
    go_wp2_with fail
    refine qb.mono ?_
    rintro r w4 ⟨⟨b2, rfl, hbig2⟩, hb4⟩
    dsimp only
    obtain ⟨hbig, z2, hM, hx, hb3, hB2⟩ := HK.out
    have hb4' := hb3.trans (hb4.mono hb3.size)
    have hB4 := hB2.trans (hb4'.mono hB2.size)
    have z4 := (hb4'.block _ (by omega)).trans z2
    have hs4 := hb4'.size
    clear qb m0 m1 m2 HK hb3 hb4 hb4' z2 hB2
    cases b2 with
    | true =>
      clear hbig hbig2 z4 hM hx
      go_wp2
      go_ret
      exact ⟨rfl, hB4⟩
    | false =>
      have hbig2 := hbig2 rfl
      have hnl : ns.length ≤ 100000 := Nat.le_trans (len_sum wtB (fun m => by unfold wtB; omega)) hbig
      have hnd : ∀ n ∈ ns, n.name.length ≤ 300000 ∧ n.data.length ≤ 300000 := fun n hn => by
        have := sumM_mem wtB hn
        unfold wtB at this hbig
        omega
      have hml : p.length ≤ 300000 ∧ x.length ≤ 300000 := by
        simp only [sumM, wtB] at hbig2
        omega
      have hM4 := hM.below hB4
      have hx4 := hx.below hB4
      clear hM hx hbig hbig2 hxl hpl hl
      have ql := lent_any _ ns w4 hM4 hnl (fun n hn => (hnd n hn).2)
      have HK := hide' (And.intro hM4 (And.intro hx4 (And.intro hnd (And.intro hB4 z4))))
      clear hM4 hx4 hnd hB4 z4
      go_wp2_with fail
      refine ql.mono ?_
      rintro r w5 ⟨⟨v5, ms, rfl, hL5, hme⟩, hb5⟩
      dsimp only
      obtain ⟨hM4, hx4, hnd, hB4, z4⟩ := HK.out
      clear HK ql
      have hs5 := hb5.size
      have hB5 := hB4.trans (hb5.mono hB4.size)
      have z5 := (hb5.block _ (by omega)).trans z4
      have hM5 := hM4.below hb5
      have hx5 := hx4.below hb5
      have hmn : ms.length = ns.length := by simpa using congrArg List.length hme
      have hmd : ∀ m ∈ ms, m.name.length ≤ 300000 ∧ m.data.length ≤ 300000 := fun m hm => by
        obtain ⟨i, hi⟩ := List.getElem?_of_mem hm
        obtain ⟨y, hy, he⟩ := map_at hme.symm hi
        rw [toE_iff] at he
        rw [← he.1, ← he.2.2]
        exact hnd y (List.mem_of_getElem? hy)
      have qf := Find_any _ ms p w5 hL5.mems (by omega)
      rw [placeR_map hme p] at qf
      obtain ⟨k, hk1, hk2, hk3⟩ := put_at ms ⟨p, t, .slice da x.length dc, x⟩
      dsimp only at hk1 hk3
      rw [placeR_map hme p, hmn] at hk3
      obtain ⟨at', hat'⟩ : ∃ at', at' = placeR ns p := ⟨_, rfl⟩
      rw [← hat'] at qf hk3
      have HA := hide' hat'
      clear hat' hM4 hx4 hB4 z4
      obtain ⟨fa, fc, hv5⟩ := hL5.mems.len
      rw [hmn] at hv5
      subst hv5
      have m0 : w5.cell? ⟨w.heap.size, 0, none⟩ = some (.string (mk p)) := by rw [Lib.cell_of_heap z5]; rfl
      have m1 : w5.cell? ⟨w.heap.size, 1, none⟩ = some (.int .i64 t) := by rw [Lib.cell_of_heap z5]; rfl
      have m2 : w5.cell? ⟨w.heap.size, 2, none⟩ = some (.slice da x.length dc) := by rw [Lib.cell_of_heap z5]; rfl
      have HK := hide' (And.intro hM5 (And.intro hx5 (And.intro hnd (And.intro hB5 (And.intro z5 (And.intro hL5 (And.intro hme (And.intro hk1 (And.intro hk2 (And.intro hk3 (And.intro hmd hb5)))))))))))
      clear hM5 hx5 hnd hB5 z5 hL5 hme hk1 hk2 hk3 hmd hb5
      go_wp2_with fail
      refine qf.mono ?_
      rintro r w6 ⟨rfl, hb6⟩
      dsimp only
      clear qf m0 m1 m2
      obtain ⟨hM5, hx5, hnd, hB5, z5, hL5, hme, hk1, hk2, hk3, hmd, hb5⟩ := HK.out
      clear HK
      have hs6 := hb6.size
      have z6 := (hb6.block _ (by omega)).trans z5
      have m0 : w6.cell? ⟨w.heap.size, 0, none⟩ = some (.string (mk p)) := by rw [Lib.cell_of_heap z6]; rfl
      have m1 : w6.cell? ⟨w.heap.size, 1, none⟩ = some (.int .i64 t) := by rw [Lib.cell_of_heap z6]; rfl
      have m2 : w6.cell? ⟨w.heap.size, 2, none⟩ = some (.slice da x.length dc) := by rw [Lib.cell_of_heap z6]; rfl
      have qp := Put_any _ ms ⟨p, t, .slice da x.length dc, x⟩ w6 (hL5.mems.below hb6) (hx5.below hb6) (by omega) hmd hml.1 hml.2
      have HK := hide' (And.intro hM5 (And.intro hx5 (And.intro hnd (And.intro hB5 (And.intro z5 (And.intro hL5 (And.intro hme (And.intro hk1 (And.intro hk2 (And.intro hk3 (And.intro hmd (And.intro hb5 (And.intro hb6 z6)))))))))))))
      clear hM5 hx5 hnd hB5 z5 hL5 hme hk1 hk2 hk3 hmd hb5 hb6 z6
      go_wp2_with fail
      refine qp.mono ?_
      rintro r w7 ⟨⟨v7, ps, rfl, hA7, hpe⟩, hb7⟩
      dsimp only
      clear qp m0 m1 m2
      obtain ⟨hM5, hx5, hnd, hB5, z5, hL5, hme, hk1, hk2, hk3, hmd, hb5, hb6, z6⟩ := HK.out
      clear HK
      have hs7 := hb7.size
      have hb7' := hb6.trans (hb7.mono hs6)
      have z7 := (hb7'.block _ (by omega)).trans z5
      have hM7 := hM5.below hb7'
      have hx7 := hx5.below hb7'
      have hB7 := hB5.trans (hb7'.mono hB5.size)
      have qs := stay_any w4.heap.size _ _ ms ns w7 (hL5.below hb7') hM7 hme hnl (fun m hm => (hmd m hm).2)
      obtain ⟨y, hy, hye⟩ := map_at hpe hk2
      have hkp : placeR ps p = k := (placeR_map hpe p).trans hk1
      have hpl : ps.length ≤ 100001 := by
        have h1 := congrArg List.length hpe
        rw [List.length_map, List.length_map] at h1
        rw [h1]
        unfold putM
        split
        · rw [List.length_set]; omega
        · simp; omega
      have hpu : ps.map toE = (putM ns ⟨p, t, .slice da x.length dc, x⟩).map toE := hpe.trans (putM_map hme _)
      clear hM5 hx5 hB5 z5 hk1 hk2 hpe hb5 hb6 z6 hb7 hb7' hL5
      obtain ⟨g, o, c, hv7, hc7, hR7, hr7⟩ : ∃ g o c, v7 = .slice (some ⟨g, o, none⟩) ps.length c ∧ ps.length ≤ c ∧ MRow w7 g o ps ∧ ∀ m ∈ ps, Rds w7 m.dv m.data := by
        rcases hA7.mems with ⟨_, rfl⟩ | ⟨g, o, c, h1, h2, h3, h4⟩
        · simp at hy
        · exact ⟨g, o, c, h1, h2, h3, h4⟩
      subst hv7
      clear hA7
      have HK := hide' (And.intro hM7 (And.intro hx7 (And.intro hnd (And.intro hB7 (And.intro z7 (And.intro hme (And.intro hk3 (And.intro hmd (And.intro hy (And.intro hye (And.intro hkp (And.intro hpu (And.intro hR7 hr7)))))))))))))
      clear hM7 hx7 hnd hB7 z7 hme hk3 hmd hy hye hkp hpu hR7 hr7
      go_wp2_with fail
      refine qs.mono ?_
      rintro r w8 ⟨rfl, hb8⟩
      dsimp only
      clear qs
      obtain ⟨hM7, hx7, hnd, hB7, z7, hme, hk3, hmd, hy, hye, hkp, hpu, hR7, hr7⟩ := HK.out
      clear HK
      have hs8 := hb8.size
      have z8 := (hb8.block _ (by omega)).trans z7
      have hM8 := hM7.below hb8
      have hx8 := hx7.below hb8
      have hB8 := hB7.trans (hb8.mono hB7.size)
      have hR8 := hR7.below hb8
      have hr8 := fun m hm => (hr7 m hm).below hb8
      clear hM7 hx7 hB7 z7 hR7 hr7 hb8
      have m0 : w8.cell? ⟨w.heap.size, 0, none⟩ = some (.string (mk p)) := by rw [Lib.cell_of_heap z8]; rfl
      have m1 : w8.cell? ⟨w.heap.size, 1, none⟩ = some (.int .i64 t) := by rw [Lib.cell_of_heap z8]; rfl
      have m2 : w8.cell? ⟨w.heap.size, 2, none⟩ = some (.slice da x.length dc) := by rw [Lib.cell_of_heap z8]; rfl
      have qm := Member_any _ ns p w8 hM8 (by omega)
      rw [← HA.out] at qm
      have qu := Pm_any _ ns ⟨p, t, .slice da x.length dc, x⟩ w8 hM8 hx8 hnl hml.1 hml.2
      have HK := hide' (And.intro hM8 (And.intro hx8 (And.intro hnd (And.intro hB8 (And.intro z8 (And.intro hme (And.intro hk3 (And.intro hmd (And.intro hy (And.intro hye (And.intro hkp (And.intro hpu (And.intro hR8 hr8)))))))))))))
      clear hM8 hx8 hnd hB8 z8 hme hk3 hmd hy hye hkp hpu hR8 hr8
      go_wp2_with fail
      refine qm.mono ?_
      rintro r w8' ⟨rfl, rfl⟩
      dsimp only
      clear qm
      go_wp2_with fail
      refine qu.mono ?_
      rintro r w10 ⟨⟨v10, us, rfl, hU, hue⟩, hb10⟩
      dsimp only
      clear qu m0 m1 m2
      obtain ⟨hM8, hx8, hnd, hB8, z8, hme, hk3, hmd, hy, hye, hkp, hpu, hR8, hr8⟩ := HK.out
      clear HK hM8 hnd hme hmd
      have hs10 := hb10.size
      have z10 := (hb10.block _ (by omega)).trans z8
      have hx10 := hx8.below hb10
      have hB10 := hB8.trans (hb10.mono hB8.size)
      have hR10 := hR8.below hb10
      have hr10 := fun m hm => (hr8 m hm).below hb10
      have hul : us.length ≤ 1000000 := by
        have h1 := congrArg List.length (hue.trans hpu.symm)
        rw [List.length_map, List.length_map] at h1
        omega
      have qe := Same_any _ v10 ps us w10 (.inr ⟨g, o, c, rfl, hc7, hR10, hr10⟩) hU hul
      clear hx8 hB8 z8 hR8 hr8 hb10 hU
      have HK := hide' (And.intro hx10 (And.intro hB10 (And.intro z10 (And.intro hk3 (And.intro hy (And.intro hye (And.intro hkp (And.intro hpu (And.intro hR10 (And.intro hr10 hue))))))))))
      clear hx10 hB10 z10 hk3 hy hye hkp hpu hR10 hr10 hue
      go_wp2_with fail
      refine qe.mono ?_
      rintro r w11 ⟨⟨b, rfl, hbt⟩, hb11⟩
      dsimp only
      obtain ⟨hx10, hB10, z10, hk3, hy, hye, hkp, hpu, hR10, hr10, hue⟩ := HK.out
      clear HK
      obtain rfl : b = true := hbt.2 (hpu.trans hue.symm)
      clear qe hbt hue hpu
      have hs11 := hb11.size
      have z11 := (hb11.block _ (by omega)).trans z10
      have hx11 := hx10.below hb11
      have hB11 := hB10.trans (hb11.mono hB10.size)
      have hR11 := hR10.below hb11
      have hr11 := fun m hm => (hr10 m hm).below hb11
      have qg := Find_any _ ps p w11 (.inr ⟨g, o, c, rfl, hc7, hR11, hr11⟩) (by omega)
      rw [hkp] at qg
      clear hkp hx10 hB10 z10 hR10 hr10 hb11
      have m0 : w11.cell? ⟨w.heap.size, 0, none⟩ = some (.string (mk p)) := by rw [Lib.cell_of_heap z11]; rfl
      have m1 : w11.cell? ⟨w.heap.size, 1, none⟩ = some (.int .i64 t) := by rw [Lib.cell_of_heap z11]; rfl
      have m2 : w11.cell? ⟨w.heap.size, 2, none⟩ = some (.slice da x.length dc) := by rw [Lib.cell_of_heap z11]; rfl
      have HK := hide' (And.intro hx11 (And.intro hB11 (And.intro z11 (And.intro hk3 (And.intro hy (And.intro hye (And.intro hR11 hr11)))))))
      clear hx11 hB11 z11 hk3 hy hye hR11 hr11
      go_wp2_with fail
      refine qg.mono ?_
      rintro r w12 ⟨rfl, hb12⟩
      dsimp only
      clear qg m0 m1 m2
      obtain ⟨hx11, hB11, z11, hk3, hy, hye, hR11, hr11⟩ := HK.out
      clear HK
      have hs12 := hb12.size
      have z12 := (hb12.block _ (by omega)).trans z11
      have hx12 := hx11.below hb12
      have hB12 := hB11.trans (hb12.mono hB11.size)
      have hR12 := hR11.below hb12
      have hry := (hr11 y (List.mem_of_getElem? hy)).below hb12
      clear hx11 hB11 z11 hR11 hr11 hb12
      have d1 := hR12.c1 k y hy
      have d2 := hR12.c2 k y hy
      have hkl : k < ps.length := (List.getElem?_eq_some_iff.1 hy).1
      have kl : (k : Int) < ps.length := by omega
      rw [toE_iff] at hye
      obtain ⟨_, hyt, hyx⟩ := hye
      dsimp only at hyt hyx
      rw [hyt] at d1
      rw [hyx] at hry
      obtain ⟨ya, yc, hyv⟩ := hry.len
      rw [hyv] at d2 hry
      have m0 : w12.cell? ⟨w.heap.size, 0, none⟩ = some (.string (mk p)) := by rw [Lib.cell_of_heap z12]; rfl
      have m1 : w12.cell? ⟨w.heap.size, 1, none⟩ = some (.int .i64 t) := by rw [Lib.cell_of_heap z12]; rfl
      have m2 : w12.cell? ⟨w.heap.size, 2, none⟩ = some (.slice da x.length dc) := by rw [Lib.cell_of_heap z12]; rfl
      clear hR12 hy z12 hyt hyx hyv
      by_cases hneg : at' < 0
      · rw [if_pos hneg] at hk3
        obtain rfl : k = ns.length := by omega
        clear hk3
        go_wp2
        refine wp_region_quiet_lit (by kernel_rfl) (by kernel_rfl) ?_
        repeat (go_big_quiet_step (fail))
        go_big_quiet_want
        refine quiet_conv _ rfl _ x rfl (fun w hw => by obtain ⟨n, rfl⟩ := hw; exact rds_str (hry.below (below_drewn n))) ?_
        go_big_quiet_on
        go_simp
        repeat (go_big_quiet_step (fail))
        go_big_quiet_want
        refine quiet_conv _ rfl _ x rfl (fun w hw => by obtain ⟨n, rfl⟩ := hw; exact rds_str (hx12.below (below_drewn n))) ?_
        go_big_quiet_on
        go_simp
        repeat (go_big_quiet_step (fail))
        refine wpQuiet_nil ?_
        intro nq
        go_wp2
        go_ret
        exact ⟨rfl, hB12.trans (below_drewn _)⟩
      · rw [if_neg hneg] at hk3
        subst hk3
        go_wp2
        refine wp_region_quiet_lit (by kernel_rfl) (by kernel_rfl) ?_
        repeat (go_big_quiet_step (fail))
        go_big_quiet_want
        refine quiet_conv _ rfl _ x rfl (fun w hw => by obtain ⟨n, rfl⟩ := hw; exact rds_str (hry.below (below_drewn n))) ?_
        go_big_quiet_on
        go_simp
        repeat (go_big_quiet_step (fail))
        go_big_quiet_want
        refine quiet_conv _ rfl _ x rfl (fun w hw => by obtain ⟨n, rfl⟩ := hw; exact rds_str (hx12.below (below_drewn n))) ?_
        go_big_quiet_on
        go_simp
        repeat (go_big_quiet_step (fail))
        refine wpQuiet_nil ?_
        intro nq
        go_wp2
        go_ret
        exact ⟨rfl, hB12.trans (below_drewn _)⟩
theorem puts_any (v : Value) (ns : List Mv) (m : Mv) (w : World) (hE : Env w) (h11 : 2 ≤ w.heap.size) (hM : Mems w v ns) (hx : Rds w m.dv m.data)
    (hl : ns.length ≤ 140737488355328) (hlim : ∀ n ∈ ns, n.data.length ≤ 140737488355328 ∧ n.name.length ≤ 140737488355328) (hxl : m.data.length ≤ 140737488355328) (hpl : m.name.length ≤ 140737488355328) :
    Calls Tryz.prog 6 #[v, .agg #[.string (mk m.name), .int .i64 m.date, m.dv]] w fun r w' => r = .returned (.bool true) ∧ Below w.heap.size w w' := by
  obtain ⟨da, dc, hdv⟩ := hx.len
  obtain ⟨sa, cap, hv⟩ := hM.len
  obtain ⟨p, t, dv, x⟩ := m
  dsimp only at *
  subst hdv
  subst hv
  exact puts_any' sa cap ns p t da dc x w hE h11 hM hx hl hlim hxl hpl
end Go.Proofs.YtcijjigafcpcpaaGreatDoor
