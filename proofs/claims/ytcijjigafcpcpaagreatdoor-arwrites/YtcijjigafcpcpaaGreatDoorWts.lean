/- The walk of the law ArWrites. -/
import Derived.Test.YtcijjigafcpcpaaGreatDoorArc
import Derived.Test.YtcijjigafcpcpaaGreatDoorStay
import Derived.Test.YtcijjigafcpcpaaGreatDoorAlive
import Derived.Test.YtcijjigafcpcpaaGreatDoorPp
import Derived.Test.YtcijjigafcpcpaaGreatDoorDatb
namespace Go.Proofs.YtcijjigafcpcpaaGreatDoor
open Go.RowKit Go.Maps

set_option maxRecDepth 100000 in
set_option maxHeartbeats 8000000 in
theorem writes_any' (sa : Option Addr) (cap : Nat) (ns : List Mv) (sb : Option Addr) (capb : Nat) (os : List Mv) (w : World) (hE : Env w) (h11 : 2 ≤ w.heap.size) (hM : Mems w (.slice sa ns.length cap) ns) (hO : Mems w (.slice sb os.length capb) os)
    (hl : ns.length ≤ 140737488355328) (hlim : ∀ n ∈ ns, n.data.length ≤ 140737488355328 ∧ n.name.length ≤ 140737488355328) (hl' : os.length ≤ 140737488355328) (hlim' : ∀ n ∈ os, n.data.length ≤ 140737488355328 ∧ n.name.length ≤ 140737488355328) :
    Calls Tryz.prog 3 #[.slice sa ns.length cap, .slice sb os.length capb] w fun r w' => r = .returned (.bool true) ∧ Below w.heap.size w w' := by
  have qa := alive_any w hE h11
  go_enter Tryz.func3, Tryz.ntmps3
  go_wp2_with fail
  refine qa.mono ?_
  rintro r w1 ⟨rfl, hb1⟩
  clear qa
  have qb := big_any _ ns w1 (hM.below hb1) hl hlim
  dsimp only
  go_wp2_with fail
  refine qb.mono ?_
  rintro r w2 ⟨⟨b1, rfl, hbig⟩, hb2⟩
  dsimp only
  have hB2 := hb1.trans (hb2.mono hb1.size)
  clear qb
  cases b1 with
  | true =>
    clear hbig hb1 hb2 hM hO hlim hlim' hE
    go_wp2
    go_ret
    exact ⟨rfl, hB2⟩
  | false =>
    have hbig := hbig rfl
    have qb := big_any _ os w2 (hO.below hB2) hl' hlim'
    have HK := hide' (And.intro hbig (And.intro hM (And.intro hO (And.intro hE hB2))))
    clear hbig hb1 hb2 hM hO hlim hlim' hE hB2
    go_wp2_with fail
    refine qb.mono ?_
    rintro r w4 ⟨⟨b2, rfl, hbig2⟩, hb4⟩
    dsimp only
    obtain ⟨hbig, hM, hO, hE, hB2⟩ := HK.out
    have hB4 := hB2.trans (hb4.mono hB2.size)
    clear qb HK hB2 hb4
    cases b2 with
    | true =>
      clear hbig hbig2 hM hO hE
      go_wp2
      go_ret
      exact ⟨rfl, hB4⟩
    | false =>
      have hbig2 := hbig2 rfl
      have hnl : ns.length ≤ 100000 := Nat.le_trans (len_sum wtB (fun m => by unfold wtB; omega)) hbig
      have hnd : ∀ n ∈ ns, n.name.length ≤ 300000 ∧ n.data.length ≤ 300000 := fun n hn => by
        have h4 := sumM_mem wtB hn
        have h5 : wtB n = 1 + n.data.length + n.name.length := rfl
        omega
      have hM4 := hM.below hB4
      have hO4 := hO.below hB4
      have hE4 := hE.keep hB4 (by omega)
      have hs4 := hB4.size
      clear hM hO hE hl hl'
      have ql := lent_any _ ns w4 hM4 hnl (fun n hn => (hnd n hn).2)
      have HK := hide' (And.intro hM4 (And.intro hO4 (And.intro hE4 (And.intro hB4 (And.intro hnd (And.intro hbig hbig2))))))
      clear hM4 hO4 hE4 hB4 hnd hbig hbig2
      go_wp2_with fail
      refine ql.mono ?_
      rintro r w5 ⟨⟨v5, ms, rfl, hL5, hme⟩, hb5⟩
      dsimp only
      obtain ⟨hM4, hO4, hE4, hB4, hnd, hbig, hbig2⟩ := HK.out
      clear HK
      clear ql
      have hs5 := hb5.size
      have hmn : ms.length = ns.length := by simpa using congrArg List.length hme
      have hmd : ∀ m ∈ ms, m.data.length ≤ 300000 := fun m hm => by
        obtain ⟨i, hi⟩ := List.getElem?_of_mem hm
        obtain ⟨y, hy, he⟩ := map_at hme.symm hi
        rw [toE_iff] at he
        rw [← he.2.2]
        exact (hnd y (List.mem_of_getElem? hy)).2
      have hbm : sumM wtB ms ≤ 100000 := by rw [sumM_map (fun _ _ => wtB_map) hme]; exact hbig
      have hwm := wrong_map hme
      have ham := arch_map hme
      obtain ⟨fa, fc, hv5⟩ := hL5.mems.len
      rw [hmn] at hv5
      subst hv5
      have qw := Write_any _ ms w5 hL5.mems (fine_of hbm) (hE4.keep (hb5.mono (Nat.le_refl _)) (by omega)) (by omega)
      have hB5 := hB4.trans (hb5.mono hB4.size)
      have hM5 := hM4.below hb5
      have hO5 := hO4.below hb5
      have hE5 := hE4.keep (hb5.mono (Nat.le_refl _)) (by omega)
      clear hM4 hO4 hE4 hB4 hb5 hnd
      have HK := hide' (And.intro hM5 (And.intro hO5 (And.intro hE5 (And.intro hB5 (And.intro hL5 (And.intro hme (And.intro hmd (And.intro hbm (And.intro hwm (And.intro ham (And.intro hbig hbig2)))))))))))
      clear hM5 hO5 hE5 hB5 hL5 hme hmd hbm hwm ham hbig hbig2
      go_wp2_with fail
      refine qw.mono ?_
      rintro r w6 ⟨hb6, hres⟩
      obtain ⟨hM5, hO5, hE5, hB5, hL5, hme, hmd, hbm, hwm, ham, hbig, hbig2⟩ := HK.out
      clear HK
      clear qw
      rw [hwm, ham] at hres
      have hs6 := hb6.size
      have hB6 := hB5.trans (hb6.mono hB5.size)
      have hM6 := hM5.below hb6
      have hO6 := hO5.below hb6
      have hE6 := hE5.keep (hb6.mono (Nat.le_refl _)) (by omega)
      have qs := stay_any w4.heap.size _ _ ms ns w6 (hL5.below hb6) hM6 hme hnl hmd
      obtain ⟨R, hR⟩ : ∃ R, R = if wrongR ns = 0 then archB ns else [] := ⟨_, rfl⟩
      obtain ⟨bv, e, rfl, hew, hbv⟩ : ∃ bv, ∃ e : Nat, r = .returned (.tuple #[bv, .int .i64 e]) ∧ e = wrongR ns ∧ Rds w6 bv R := by
        rcases hres with ⟨hz, v, hr, hD, _⟩ | ⟨hz, hr⟩
        · exact ⟨v, 0, hr, hz.symm, by rw [hR, if_pos hz]; exact hD.rds⟩
        · exact ⟨_, wrongR ns, hr, rfl, by rw [hR, if_neg hz]; exact .inl ⟨rfl, rfl⟩⟩
      obtain ⟨ba, bc, hbf⟩ := hbv.len
      subst hbf
      dsimp only
      clear hres hb6 hM5 hO5 hE5 hB5 hwm ham hbm hL5
      have HK := hide' (And.intro hM6 (And.intro hO6 (And.intro hE6 (And.intro hB6 (And.intro hme (And.intro hmd (And.intro hbig (And.intro hbig2 (And.intro hR (And.intro hew hbv))))))))))
      clear hM6 hO6 hE6 hB6 hme hmd hbig hbig2 hR hew hbv
      go_wp2_with fail
      refine qs.mono ?_
      rintro r w7 ⟨rfl, hb7⟩
      dsimp only
      clear qs
      obtain ⟨hM6, hO6, hE6, hB6, hme, hmd, hbig, hbig2, hR, hew, hbv⟩ := HK.out
      clear HK
      have hs7 := hb7.size
      have hB7 := hB6.trans (hb7.mono hB6.size)
      have hM7 := hM6.below hb7
      have hO7 := hO6.below hb7
      have hE7 := hE6.keep (hb7.mono (Nat.le_refl _)) (by omega)
      have hb7v := hbv.below hb7
      have qw := Write_any _ os w7 hO7 (fine_of hbig2) hE7 (by omega)
      clear hM6 hO6 hE6 hB6 hbv hb7 hme hmd
      have HK := hide' (And.intro hM7 (And.intro hO7 (And.intro hE7 (And.intro hB7 (And.intro hbig (And.intro hbig2 (And.intro hR (And.intro hew hb7v))))))))
      clear hM7 hO7 hE7 hB7 hbig hbig2 hR hew hb7v
      go_wp2_with fail
      refine qw.mono ?_
      rintro r w8 ⟨hb8, hres⟩
      clear qw
      obtain ⟨hM7, hO7, hE7, hB7, hbig, hbig2, hR, hew, hb7v⟩ := HK.out
      clear HK
      have hs8 := hb8.size
      obtain ⟨cv, e8, rfl, hcv⟩ : ∃ cv, ∃ e8 : Nat, r = .returned (.tuple #[cv, .int .i64 e8]) ∧ DatB w8 (fun g => w7.heap.size ≤ g) cv := by
        rcases hres with ⟨hz, v, hr, hD, hO⟩ | ⟨hz, hr⟩
        · obtain ⟨_, z2, z3⟩ := wrong_zero hz
          exact ⟨v, 0, hr, hD.datB (fun g hg => hO g hg) (by rw [arch_length z2 z3]; omega)⟩
        · exact ⟨_, wrongR os, hr, .inl rfl⟩
      obtain ⟨ca, cn, cc, hcf, hcn⟩ := hcv.len
      subst hcf
      dsimp only
      clear hres hO7 hE7 hbig2
      have HK := hide' (And.intro hM7 (And.intro hB7 (And.intro hbig (And.intro hR (And.intro hew (And.intro hb7v hb8))))))
      clear hM7 hB7 hbig hR hew hb7v hb8
      go_wp2_with fail
      go_loopw [13] (fun i wy => ∃ k : Nat, k ≤ cn ∧ i = .int .i64 k ∧ DatB wy (fun g => w7.heap.size ≤ g) (.slice ca cn cc) ∧ Turn (fun g => w7.heap.size ≤ g) w8 wy) (fun i _ => cn - (intOf i).toNat)
      case atStart => exact ⟨0, Nat.zero_le _, rfl, hcv, Turn.refl _ _⟩
      case round =>
        obtain ⟨k', hk, rfl, hDi, hTi⟩ := hrel
        by_cases hkl : k' < cn
        · have k1 : (k' : Int) < cn := by omega
          rcases hDi with e1 | ⟨g', n', cap', cur, e1, h1, h2, h3, h4⟩
          · cases e1; omega
          · cases e1
            obtain ⟨x, hx⟩ := h4 k' hkl
            have c1 : wr.cell? ⟨g', k', none⟩ = some (.int .u8 (x.toNat : Nat)) := by rw [Lib.cell_of_heap h2]; exact hx
            have f1 := Lib.frozen_of_heap h2 k'
            clear hcv
            go_wp2
            obtain ⟨y, hy⟩ := xor_byte x
            rw [hy]
            exact ⟨⟨k' + 1, by omega, by simp, DatB.set (.inr ⟨g', cn, cc, cur, rfl, h1, h2, h3, h4⟩), hTi.set h1 _ _⟩, by simp [intOf]; omega⟩
        · obtain rfl : k' = cn := by omega
          have k1 : ¬ (k' : Int) < k' := by omega
          obtain ⟨hM7, hB7, hbig, hR, hew, hb7v, hb8⟩ := HK.out
          clear HK
          have hbz : Below w7.heap.size w7 wr := hb8.trans (hTi.below hs8 fun _ hi => hi)
          have hM9 := hM7.below hbz
          have hB9 := hB7.trans (hbz.mono hB7.size)
          have hv9 := hb7v.below hbz
          have qA := arch_any _ ns wr hM9 hbig
          clear hM7 hB7 hb7v hb8 hDi hTi hbz hcv hM9 hbig
          have HK := hide' (And.intro hB9 (And.intro hR (And.intro hew hv9)))
          clear hB9 hR hew hv9
          go_wp2_with fail
          refine qA.mono ?_
          rintro r w10 ⟨hb10, hres⟩
          clear qA
          obtain ⟨hB9, hR, hew, hv9⟩ := HK.out
          clear HK
          obtain ⟨wv, rfl, hwv⟩ : ∃ wv, r = .returned (.tuple #[wv, .int .i64 e]) ∧ Rds w10 wv R := by
            rcases hres with ⟨hz, v, hr, hD⟩ | ⟨hz, hr⟩
            · exact ⟨v, by rw [hew, hz]; exact hr, by rw [hR, if_pos hz]; exact hD⟩
            · exact ⟨_, by rw [hew]; exact hr, by rw [hR, if_neg hz]; exact .inl ⟨rfl, rfl⟩⟩
          obtain ⟨wa, wc, hwf⟩ := hwv.len
          subst hwf
          have hcx := rds_str (hv9.below hb10)
          have hcy := rds_str hwv
          have hBz := hB9.trans (hb10.mono hB9.size)
          have qn := num_any e w10
          dsimp only
          clear hres hR hew hv9 hwv hB9 hb10
          go_wp2_with fail
          refine qn.mono ?_
          rintro r w11 ⟨rfl, rfl⟩
          dsimp only
          go_wp2
          go_ret
          exact ⟨rfl, hBz⟩
theorem writes_any (v v' : Value) (ns os : List Mv) (w : World) (hE : Env w) (h11 : 2 ≤ w.heap.size) (hM : Mems w v ns) (hO : Mems w v' os)
    (hl : ns.length ≤ 140737488355328) (hlim : ∀ n ∈ ns, n.data.length ≤ 140737488355328 ∧ n.name.length ≤ 140737488355328) (hl' : os.length ≤ 140737488355328) (hlim' : ∀ n ∈ os, n.data.length ≤ 140737488355328 ∧ n.name.length ≤ 140737488355328) :
    Calls Tryz.prog 3 #[v, v'] w fun r w' => r = .returned (.bool true) ∧ Below w.heap.size w w' := by
  obtain ⟨sa, cap, hv⟩ := hM.len
  obtain ⟨sb, capb, hv'⟩ := hO.len
  subst hv
  subst hv'
  exact writes_any' sa cap ns sb capb os w hE h11 hM hO hl hlim hl' hlim'
end Go.Proofs.YtcijjigafcpcpaaGreatDoor
