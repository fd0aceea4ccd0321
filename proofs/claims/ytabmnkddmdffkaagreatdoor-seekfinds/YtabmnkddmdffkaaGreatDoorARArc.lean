import Derived.Test.YtabmnkddmdffkaaGreatDoorARFairG
import Derived.Test.YtabmnkddmdffkaaGreatDoorARWrite
import Derived.Deep.AppendLies
import Derived.Test.YtabmnkddmdffkaaGreatDoorARBigG
import Derived.Test.YtabmnkddmdffkaaGreatDoorARBd
import Derived.Lib.SlBytesConst
import Derived.Test.YtabmnkddmdffkaaGreatDoorARFloat2
import Derived.Deep.QuietTactic
import Derived.BigQuiet
import Derived.Deep.Cut
namespace Go.Proofs.YtabmnkddmdffkaaGreatDoor.Arc
open Go.RowKit Go.Maps
theorem sumD_le (ms : List Mv) : sumM wtD ms ≤ 60 * ms.length + sumM wtB ms := by
 induction ms with
 | nil => simp [sumM]
 | cons m r ih =>
  have h : wtD m ≤ 60 + wtB m := by unfold wtD wtB evn; omega
  simp only [sumM, List.length_cons]
  omega
theorem sumT_le (ms : List Mv) : sumM wtT ms ≤ ms.length + sumM wtB ms := by
 induction ms with
 | nil => simp [sumM]
 | cons m r ih =>
  have h : wtT m ≤ 1 + wtB m := by unfold wtT wtB; split <;> omega
  simp only [sumM, List.length_cons]
  omega
theorem tmod2 (n : Nat) : ((n : Int).tmod 2) = (n % 2 : Nat) := by rw [Int.tmod_eq_emod_of_nonneg (by omega)]; omega
theorem lenA_none {ms : List Mv} (h : ¬ 0 < sumM wtT ms) : lenA ms = 8 + sumM wtD ms := by unfold lenA; rw [if_neg h, Nat.add_zero]
theorem lenA_some {ms : List Mv} (h : 0 < sumM wtT ms) : lenA ms = 8 + sumM wtD ms + (60 + evn (sumM wtT ms)) := by unfold lenA; rw [if_pos h]
def AAt (ms : List Mv) (w : World) (r : Ending) (w' : World) : Prop :=
 Below w.heap.size w w' ∧ ((wrongR ms = 0 ∧ ∃ v, r = .returned (.tuple #[v, .int .i64 0]) ∧ Rds w' v (archB ms)) ∨ (wrongR ms ≠ 0 ∧ r = .returned (.tuple #[.slice none 0 0, .int .i64 (wrongR ms : Nat)])))
theorem magic_rds (w : World) (f : Nat × Nat) : Rds (w.alloc (.cells #[.int .u8 33, .int .u8 60, .int .u8 97, .int .u8 114, .int .u8 99, .int .u8 104, .int .u8 62, .int .u8 10] 5 f)) (.slice (some ⟨w.heap.size, 0, none⟩) 8 8) magicB := by
 refine .inr ⟨⟨w.heap.size, 0, none⟩, 8, rfl, fun _ => lt_of_block (alloc_new _ _), fun j u hj => ?_⟩
 rw [add_zero, Lib.cell_of_heap (alloc_new _ _)]
 have hj8 : j < 8 := (List.getElem?_eq_some_iff.1 hj).1
 rcases j with _ | _ | _ | _ | _ | _ | _ | _ | j
 all_goals first | (cases hj; rfl) | omega
structure RmC (g off : Nat) (t : Int) (dv : Value) (w : World) : Prop where
 c1 : w.cell? ⟨g, off + 1, none⟩ = some (.int .i64 t)
 c2 : w.cell? ⟨g, off + 2, none⟩ = some dv
theorem RmC.below {g off N : Nat} {t : Int} {dv : Value} {w w' : World} (h : RmC g off t dv w) (hb : Below N w w') (h1 : g < N) : RmC g off t dv w' :=
 ⟨(hb.cell (p := ⟨g, off + 1, none⟩) h1).trans h.c1, (hb.cell (p := ⟨g, off + 2, none⟩) h1).trans h.c2⟩
theorem pre_len {ms : List Mv} (k : Nat) (h1 : lenA ms ≤ 65536) (h2 : ms.all okM = true) : (magicB ++ tableB ms ++ bodyB 0 (ms.take k)).length ≤ 65536 := by
 have h := arch_length h1 h2
 unfold archB at h
 rw [← List.take_append_drop k ms, bodyB_append, List.take_append_drop, ← List.append_assoc, List.length_append] at h
 omega
theorem ok_parts {m : Mv} (h : okM m = true) : m.name.length ≤ 255 ∧ 0 ≤ m.date ∧ m.date ≤ 999999999999 := by
 rw [ok_eq, nmb_has] at h
 simp only [Bool.and_eq_true, decide_eq_true_eq] at h
 exact ⟨h.1.1.1.2, h.1.2, h.2⟩
theorem cat_one' (b : Bs) (c : UInt8) : (⟨#[c]⟩ : ByteArray) ++ mk b = mk (c :: b) := ByteArray.ext (by rw [ByteArray.data_append]; simp)
theorem lenA_ge (ms : List Mv) : 8 + sumM wtD ms + sumM wtT ms ≤ lenA ms := by
 unfold lenA evn
 split <;> omega
set_option maxRecDepth 100000 in
set_option maxHeartbeats 8000000 in
theorem arch_any' (sa : Option Addr) (cap : Nat) (ms : List Mv) (w : World) (hsa : ms ≠ [] → ∃ g o, sa = some ⟨g, o, none⟩ ∧ MRow w g o ms) (hr : ∀ m ∈ ms, Rds w m.dv m.data) (hbig : sumM wtB ms ≤ 1000000000) (hsm : ∀ m ∈ ms, wtB m ≤ 200000) :
  Calls Tryz.prog 95 #[.slice sa ms.length cap] w fun r w' => AAt ms w r w' := by
 by_cases h5 : 5000 < ms.length
 ·have k5 : (5000 : Int) < ms.length := by omega
  have hw := wrong_long (ms := ms) (.inl h5)
  have HW := hide' hw
  clear hw hsa hr hbig
  go_enter Tryz.func95, Tryz.ntmps95
  go_wp2
  go_ret2
  exact ⟨Below.refl _ _, .inr ⟨by rw [HW.out]; decide, by rw [HW.out]; rfl⟩⟩
 have k5 : ¬ (5000 : Int) < ms.length := by omega
 have hD := sumD_le ms
 have hT := sumT_le ms
 have hDk := sumM_take_le wtD ms
 have hTk := sumM_take_le wtT ms
 go_enter Tryz.func95, Tryz.ntmps95
 go_wp2_with fail
 go_loopw [4, 5, 6] (fun tb n i wr => ∃ k s : Nat, k ≤ ms.length ∧ i = .int .i64 k ∧ tb = .string (mk (tbl (ms.take k))) ∧ n = .int .i64 s ∧ s = 8 + sumM wtD (ms.take k) ∧ Below w.heap.size w wr) (fun _ _ i _ => ms.length - (intOf i).toNat)
 case atStart => exact ⟨0, 8, by omega, rfl, rfl, rfl, rfl, Below.refl _ _⟩
 case round =>
  obtain ⟨k, s, hk, rfl, rfl, rfl, hs, hB⟩ := hrel
  by_cases hkl : k < ms.length
  ·have k1 : (k : Int) < ms.length := by omega
   obtain ⟨m, hm⟩ : ∃ m, ms[k]? = some m := ⟨_, List.getElem?_eq_getElem hkl⟩
   have hmem := List.mem_of_getElem? hm
   obtain ⟨g, o, hse, h⟩ := hsa (fun e => by rw [e] at hkl; simp at hkl)
   subst hse
   have hR := h.below hB
   have d0 := hR.c0 k m hm
   have d2 := hR.c2 k m hm
   obtain ⟨da, dc, hdv⟩ := (hr m hmem).len
   rw [hdv] at d2
   have hs1 := sumM_take wtD hm
   have hs2 := tbl_take hm
   have hTl := tbl_len (ms.take k)
   have hb1 := hDk (k + 1)
   have hb2 := hTk k
   have hb3 := hsm m hmem
   have hwd : wtD m = 60 + (m.data.length + m.data.length % 2) := rfl
   have hwb : wtB m = 1 + m.data.length + m.name.length := rfl
   have hst : s + 60 + m.data.length + m.data.length % 2 = 8 + sumM wtD (ms.take (k + 1)) := by omega
   have hmod := tmod2 m.data.length
   have hzT : (mk (tbl (ms.take k))).size = sumM wtT (ms.take k) := by rw [mk_size, hTl]
   have hzN : (mk m.name).size = m.name.length := mk_size _
   have hBd : ∀ n, Below w.heap.size w (wr.drewN n) := fun n => hB.trans (below_drewn n)
   have l1 : m.data.length ≤ 200000 := by omega
   have l2 : m.name.length ≤ 200000 := by omega
   have l3 : sumM wtT (ms.take k) ≤ 1000010000 := by omega
   have l4 : s ≤ 2000000000 := by omega
   by_cases h15 : 15 < m.name.length
   ·have hlng : lng m.name = true := decide_eq_true h15
    have hcat : mk (tbl (ms.take k)) ++ mk m.name ++ (⟨#[47, 10]⟩ : ByteArray) = mk (tbl (ms.take (k + 1))) := by
     rw [cat_mk' (tbl (ms.take k)) m.name, cat_two, hs2, if_pos hlng, List.append_assoc]
    have k15 : (15 : Int) < m.name.length := by omega
    have hwt : wtT m = m.name.length + 2 := by unfold wtT; rw [if_pos hlng]
    have hs3 := sumM_take wtT hm
    have hb4 := hTk (k + 1)
    have l5 : s + 60 + m.data.length + m.data.length % 2 + (sumM wtT (ms.take k) + m.name.length + 2) ≤ 4000000000 := by omega
    have hWL : 655360 < s + 60 + m.data.length + m.data.length % 2 + (sumM wtT (ms.take k) + m.name.length + 2) → wrongR ms = 2 := fun hx => wrong_long (ms := ms) (.inr (by have := lenA_ge ms; omega))
    have HF := hide' (And.intro hcat (And.intro hst hWL))
    clear hwt hs3 hb4 hWL
    clear hlng hcat hst hs2 hs1 hTl hb1 hb2 hb3 hwd hwb hR h hr hm hmem hB hDk hTk hD hT hs hsa hbig
    generalize sumM wtT (ms.take k) = tk at *
    generalize mk (tbl (ms.take k)) = TS at *
    generalize mk m.name = NS at *
    generalize m.name.length = nl at *
    generalize m.data.length = dl at *
    go_wp2
    go_quiet (fail)
    obtain ⟨hcat, hst, hWL⟩ := HF.out
    have hz' : (TS ++ NS ++ (⟨#[47, 10]⟩ : ByteArray)).size = tk + nl + 2 := by rw [ByteArray.size_append, ByteArray.size_append, hzT, hzN]; rfl
    have hn' : (s : Int) + 60 + dl + dl % 2 = ((s + 60 + dl + dl % 2 : Nat) : Int) := by omega
    rw [hcat, hn']
    rw [hcat] at hz'
    clear HF hmod hn' hcat hzT hzN
    generalize tk + nl + 2 = tk' at *
    generalize s + 60 + dl + dl % 2 = s' at *
    generalize hTT : mk (tbl (ms.take (k + 1))) = TT at *
    have HF := hide' (And.intro hTT (And.intro hst hWL))
    clear hTT hst hWL
    by_cases hX : 655360 < s' + tk'
    ·have hXi : (655360 : Int) < (s' : Int) + (tk' : Nat) := by omega
     have hw := HF.out.2.2 hX
     have HW := hide' hw
     clear hw
     go_wp2
     go_ret2
     exact ⟨hBd _, .inr ⟨by rw [HW.out]; decide, by rw [HW.out]; rfl⟩⟩
    have hXi : ¬ (655360 : Int) < (s' : Int) + (tk' : Nat) := by omega
    have l6 : s' ≤ 655360 := by omega
    go_wp2
    exact ⟨⟨k + 1, s', by omega, by simp, by rw [HF.out.1], rfl, HF.out.2.1, hBd _⟩, by simp [intOf]; omega⟩
   ·have hlng : ¬ lng m.name = true := fun e => h15 (of_decide_eq_true e)
    have hcat : tbl (ms.take k) = tbl (ms.take (k + 1)) := by rw [hs2, if_neg hlng, List.append_nil]
    have k15 : ¬ (15 : Int) < m.name.length := by omega
    have l5 : s + 60 + m.data.length + m.data.length % 2 + sumM wtT (ms.take k) ≤ 4000000000 := by omega
    have hWL : 655360 < s + 60 + m.data.length + m.data.length % 2 + sumM wtT (ms.take k) → wrongR ms = 2 := fun hx => wrong_long (ms := ms) (.inr (by have := lenA_ge ms; omega))
    rw [hcat] at hzT ⊢
    have HF := hide' (And.intro hst hWL)
    clear hWL
    clear hlng hcat hst hs2 hs1 hTl hb1 hb2 hb3 hwd hwb hR h hr hm hmem hB hDk hTk hD hT hs hsa hbig
    generalize sumM wtT (ms.take k) = tk at *
    generalize hTT : mk (tbl (ms.take (k + 1))) = TS at *
    have HT := hide' hTT
    clear hTT
    generalize mk m.name = NS at *
    generalize m.name.length = nl at *
    generalize m.data.length = dl at *
    go_wp2
    go_quiet (fail)
    have hn' : (s : Int) + 60 + dl + dl % 2 = ((s + 60 + dl + dl % 2 : Nat) : Int) := by omega
    obtain ⟨hst, hWL⟩ := HF.out
    rw [hn']
    clear HF hmod hn'
    generalize s + 60 + dl + dl % 2 = s' at *
    have HF := hide' (And.intro hst hWL)
    clear hst hWL
    by_cases hX : 655360 < s' + tk
    ·have hXi : (655360 : Int) < (s' : Int) + (tk : Nat) := by omega
     have hw := HF.out.2 hX
     have HW := hide' hw
     clear hw
     go_wp2
     go_ret2
     exact ⟨hBd _, .inr ⟨by rw [HW.out]; decide, by rw [HW.out]; rfl⟩⟩
    have hXi : ¬ (655360 : Int) < (s' : Int) + (tk : Nat) := by omega
    have l6 : s' ≤ 655360 := by omega
    go_wp2
    exact ⟨⟨k + 1, s', by omega, by simp, by rw [HT.out], rfl, HF.out.1, hBd _⟩, by simp [intOf]; omega⟩
  ·obtain rfl : k = ms.length := by omega
   have k1 : ¬ (ms.length : Int) < ms.length := by omega
   rw [List.take_length] at hs ⊢
   have hzT : (mk (tbl ms)).size = sumM wtT ms := by rw [mk_size, tbl_len]
   have l3 : sumM wtT ms ≤ 1000010000 := by omega
   have l4 : s ≤ 2000000000 := by omega
   have hmod := tmod2 (sumM wtT ms)
   by_cases hT0 : 0 < sumM wtT ms
   ·have hA := lenA_some hT0
    unfold evn at hA
    have t0 : (0 : Int) < (sumM wtT ms : Nat) := by omega
    by_cases hL : 65536 < lenA ms
    ·have hw := wrong_long (ms := ms) (.inr hL)
     have k3 : (65536 : Int) < (s : Int) + 60 + (sumM wtT ms : Nat) + (sumM wtT ms : Nat) % 2 := by omega
     have HK := hide' (And.intro hw hB)
     clear hw hB hsa hr hA hL hs hD hT hDk hTk hbig
     generalize sumM wtT ms = tz at *
     generalize mk (tbl ms) = TS at *
     go_wp2
     go_ret2
     exact ⟨HK.out.2, .inr ⟨by rw [HK.out.1]; decide, by rw [HK.out.1]; rfl⟩⟩
    ·have hLe : lenA ms ≤ 65536 := by omega
     have k3 : ¬ (65536 : Int) < (s : Int) + 60 + (sumM wtT ms : Nat) + (sumM wtT ms : Nat) % 2 := by omega
     have HA := hide' (And.intro hA (And.intro hs hL))
     clear hA hL hs
     obtain ⟨tz, htz⟩ : ∃ tz, tz = sumM wtT ms := ⟨_, rfl⟩
     obtain ⟨TS, hTS⟩ : ∃ TS, TS = mk (tbl ms) := ⟨_, rfl⟩
     rw [← htz] at hzT hmod t0 k3 l3 hT0
     rw [← hTS] at hzT ⊢
     have HT := hide' (And.intro htz hTS)
     clear htz hTS
     go_wp2_with fail
     go_loopw [7, 8] (fun i _ wy => ∃ k : Nat, k ≤ ms.length ∧ i = .int .i64 k ∧ (∀ m ∈ ms.take k, okM m = true) ∧ Below w.heap.size w wy) (fun i _ _ => ms.length - (intOf i).toNat)
     case atStart => exact ⟨0, by omega, rfl, fun m hm => (by simp at hm), hB⟩
     case round =>
      skip
      obtain ⟨k, hk, rfl, hok, hB2⟩ := hrel
      by_cases hkl2 : k < ms.length
      ·have k2 : (k : Int) < ms.length := by omega
       obtain ⟨m, hm⟩ : ∃ m, ms[k]? = some m := ⟨_, List.getElem?_eq_getElem hkl2⟩
       have hmem := List.mem_of_getElem? hm
       obtain ⟨g, o, hse, h⟩ := hsa (fun e => by rw [e] at hkl2; simp at hkl2)
       subst hse
       have hR := h.below hB2
       have d0 := hR.c0 k m hm
       have d1 := hR.c1 k m hm
       have d2 := hR.c2 k m hm
       obtain ⟨da, dc, hdv⟩ := (hr m hmem).len
       rw [hdv] at d2
       have hb3 := hsm m hmem
       have hwb : wtB m = 1 + m.data.length + m.name.length := rfl
       have qf := fair_any m.name m.date da m.data.length dc m.data (by omega) wr
       have hoe : okM ⟨m.name, m.date, .slice da m.data.length dc, m.data⟩ = okM m := rfl
       rw [hoe] at qf
       cases hom : okM m with
       | true =>
        rw [hom] at qf
        have hok2 : ∀ x ∈ ms.take (k + 1), okM x = true := fun x hx => by
         rw [List.take_add_one, hm] at hx
         rcases List.mem_append.1 hx with hx | hx
         ·exact hok x hx
         ·obtain rfl : x = m := by simpa using hx
          exact hom
        have HK := hide' (And.intro hok2 hB2)
        clear hok2 hom hoe hok hB2 hR h hm hmem hb3 hwb hsa hr hD hT hDk hTk hbig hdv hB
        go_wp2_with fail
        refine qf.mono ?_
        rintro r w3 ⟨rfl, hb3⟩
        dsimp only
        clear qf
        go_wp2
        exact ⟨⟨k + 1, by omega, by simp, HK.out.1, HK.out.2.trans (hb3.mono HK.out.2.size)⟩, by simp [intOf]; omega⟩
       | false =>
        rw [hom] at qf
        have hw := wrong_bad (by omega) (by omega) hmem hom
        have HK := hide' (And.intro hw hB2)
        clear hw hom hoe hok hB2 hR h hm hmem hb3 hwb hsa hr hD hT hDk hTk hbig hdv hB
        go_wp2_with fail
        refine qf.mono ?_
        rintro r w3 ⟨rfl, hb3⟩
        dsimp only
        clear qf
        go_wp2
        go_ret2
        exact ⟨HK.out.2.trans (hb3.mono HK.out.2.size), .inr ⟨by rw [HK.out.1]; decide, by rw [HK.out.1]; rfl⟩⟩
      ·obtain rfl : k = ms.length := by omega
       have k2 : ¬ (ms.length : Int) < ms.length := by omega
       rw [List.take_length] at hok
       have hall : ms.all okM = true := List.all_eq_true.2 hok
       have hw0 := wrong_ok (by omega) hLe hall
       clear hok hkl2 hk hD hT hDk hTk hB
       have hcv := Lib.run_convert_bytes_const (P := Tryz.prog) wr 57 5 #[.int .u8 33, .int .u8 60, .int .u8 97, .int .u8 114, .int .u8 99, .int .u8 104, .int .u8 62, .int .u8 10] 8 8 Tryz.underlying57 Tryz.underlying5
       have hb3 : Below wr.heap.size wr (wr.alloc (.cells #[.int .u8 33, .int .u8 60, .int .u8 97, .int .u8 114, .int .u8 99, .int .u8 104, .int .u8 62, .int .u8 10] 5 (8, 9))) := (Below.refl _ _).alloc (Nat.le_refl _) _
       have hB3 := hB2.trans (hb3.mono hB2.size)
       have hd3 : Bd w.heap.size (wr.alloc (.cells #[.int .u8 33, .int .u8 60, .int .u8 97, .int .u8 114, .int .u8 99, .int .u8 104, .int .u8 62, .int .u8 10] 5 (8, 9))) (.slice (some ⟨wr.heap.size, 0, none⟩) 8 8) magicB := .inr ⟨_, rfl, magic_rds wr (8, 9)⟩
       have qh : ∀ w, Calls Tryz.prog 118 #[.string ⟨#[47, 47]⟩, .string ⟨#[]⟩, .string ⟨#[]⟩, .string ⟨#[]⟩, .int .i64 (tz : Nat)] w fun e w' => e = .returned (.string (mk (headB [47, 47] [] [] [] [] (dec (tz : Nat))))) ∧ w' = w := fun w => rhead_any [47, 47] [] [] [] tz (by decide) (by decide) (by decide) (by decide) (by omega) (by omega) w
       have hHz : (mk (headB [47, 47] [] [] [] [] (dec (tz : Nat)))).size = 60 := by rw [mk_size]; exact head_length (by decide) (by decide) (by decide) (by decide) (by decide) (by have := dec_len 5 tz (by omega) (by show (tz : Int) < 1000000; omega); omega)
       have hHt := tl_mk (headB [47, 47] [] [] [] [] (dec (tz : Nat)))
       generalize mk (headB [47, 47] [] [] [] [] (dec (tz : Nat))) = HS at qh hHz hHt
       have hNs := hB3.size
       have HK := hide' (And.intro hHt (And.intro hB2 (And.intro hb3 (And.intro hB3 (And.intro hall (And.intro hw0 (And.intro hr hbig)))))))
       clear hHt hB2 hb3 hB3 hall hw0 hr hbig
       go_wp2_with fail
       refine (qh _).mono ?_
       rintro r w4 ⟨rfl, rfl⟩
       dsimp only
       clear qh hcv
       go_wp2_with (at_builtin; refine wpList_append_bd _ rfl _ _ rfl rfl rfl hd3 hNs (by rw [hHz]; decide) (by rw [hHz]; decide) ?_)
       intro v5 w5 hd5 hO5 hb5
       obtain ⟨hHt, hB2, hb3, hB3, hall, hw0, hr, hbig⟩ := HK.out
       clear HK
       rw [hHt] at hd5
       have hB5 := hB3.trans hb5
       obtain ⟨a5, n5, c5, hv5⟩ := hd5.form
       subst hv5
       have hl5 : (magicB ++ headB [47, 47] [] [] [] [] (dec (tz : Nat))).length = 68 := by rw [List.length_append, ← hHt, tl_len, hHz]; rfl
       clear hHt hHz hB2 hb3 hB3 hd3 hb5 hNs
       have HK := hide' (And.intro hB5 (And.intro hO5 (And.intro hall (And.intro hw0 (And.intro hr hbig)))))
       clear hB5 hO5 hall hw0 hr hbig
       go_wp2_with (at_builtin; refine wpList_append_str _ rfl _ _ rfl rfl rfl hd5 (by rw [hl5, hzT]; omega) ?_)
       intro v6 w6 hd6 hg6 ho6
       obtain ⟨hB5, hO5, hall, hw0, hr, hbig⟩ := HK.out
       clear HK
       have hB6 := below_own hB5 hO5 hg6 hB5.size
       have hO6 := hO5.step hB5.size ho6
       obtain ⟨a6, n6, c6, hv6⟩ := hd6.form
       subst hv6
       obtain ⟨htz, hTS⟩ := HT.out
       rw [hTS, tl_mk] at hd6
       have hpos : 0 < (tbl ms).length := by rw [tbl_len, ← htz]; exact hT0
       have htl : (tbl ms).length = tz := by rw [tbl_len, ← htz]
       clear hg6 ho6 hB5 hO5 hd5 htz hTS
       by_cases hodd : tz % 2 = 1
       ·have hov : ((tz : Int) % 2 == 1) = true := beq_iff_eq.2 (by omega)
        have hDB : magicB ++ tableB ms = magicB ++ headB [47, 47] [] [] [] [] (dec (tz : Nat)) ++ tbl ms ++ [10] := by
         unfold tableB dataB
         rw [if_pos hpos, htl, if_pos hodd]
         simp only [List.append_assoc]
        have hb7 : Below w6.heap.size w6 (w6.alloc (.cells #[.int .u8 10] 5)) := (Below.refl _ _).alloc (Nat.le_refl _) _
        have hd7 := hd6.kept fun g hg => hb7.block g (hd6.lt g hg)
        have hr7 := byte_rds w6 10
        have hB7 := hB6.trans (hb7.mono hB6.size)
        have hln : (magicB ++ headB [47, 47] [] [] [] [] (dec (tz : Nat)) ++ tbl ms).length + 1 ≤ 1099511627776 := by rw [List.length_append, hl5, htl]; omega
        have HK := hide' (And.intro hB6 (And.intro hB7 (And.intro hO6 (And.intro hall (And.intro hw0 (And.intro hr (And.intro hbig (And.intro hDB (And.intro hb7 hd6)))))))))
        clear hB6 hB7 hO6 hall hw0 hr hbig hDB hb7 hd6
        go_wp2_with (at_builtin; refine wpList_append_dat _ rfl _ _ rfl rfl rfl hd7 hr7 hln ?_)
        intro v8 w8 hd8 _ hg8 ho8
        obtain ⟨hB6, hB7, hO6, hall, hw0, hr, hbig, hDB, hb7, hd6⟩ := HK.out
        clear HK
        have hBz := below_own hB7 hO6 hg8 hB7.size
        have hO8 := hO6.step hB7.size (by first | exact ho8 | (rw [size_alloc']; exact ho8))
        have hd8 : Dat w8 v8 (magicB ++ tableB ms) := by rw [hDB]; simpa only [List.append_assoc] using hd8
        obtain ⟨a8, n8, c8, hv8⟩ := hd8.form
        subst hv8
        have hbd : Bd w.heap.size w8 (.slice a8 n8 c8) (magicB ++ tableB ms) := .inl ⟨hd8, hO8⟩
        clear hd8 hO8 hg8 ho8 hB6 hB7 hO6 hDB hb7 hd6 hd7 hr7 hln hl5 hodd hov hpos htl hmod
        go_wp2_with fail
        go_loopw [9, 10, 11, 12] (fun b pl i _ wy => ∃ (k P : Nat), k ≤ ms.length ∧ i = .int .i64 k ∧ pl = .int .i64 P ∧ P = sumM wtT (ms.take k) ∧ Bd w.heap.size wy b (magicB ++ tableB ms ++ bodyB 0 (ms.take k)) ∧ Below w.heap.size w wy) (fun _ _ i _ _ => ms.length - (intOf i).toNat)
        case atStart => exact ⟨0, 0, by omega, rfl, rfl, rfl, by rw [List.take_zero]; unfold bodyB; rw [List.append_nil]; exact hbd, hBz⟩
        case round =>
         obtain ⟨k, P, hk, rfl, rfl, hP, hbk, hBk⟩ := hrel
         obtain ⟨ba, bn, bc, hbv⟩ := hbk.form
         subst hbv
         by_cases hkl3 : k < ms.length
         ·have k2 : (k : Int) < ms.length := by omega
          obtain ⟨m, hm⟩ : ∃ m, ms[k]? = some m := ⟨_, List.getElem?_eq_getElem hkl3⟩
          have hmem := List.mem_of_getElem? hm
          obtain ⟨g, o, hse, h⟩ := hsa (fun e => by rw [e] at hkl3; simp at hkl3)
          subst hse
          have hgN := h.lt
          have hR := h.below hBk
          have d0 := hR.c0 k m hm
          have d1 := hR.c1 k m hm
          have d2 := hR.c2 k m hm
          have hrd := (hr m hmem).below hBk
          obtain ⟨da, dc, hdv⟩ := hrd.len
          rw [hdv] at d2 hrd
          obtain ⟨o1, o2, o3⟩ := ok_parts (List.all_eq_true.1 hall m hmem)
          have hwl := wtD_le hLe
          have hdl := hwl.2.2 m hmem
          have hs2 := sumM_take wtT hm
          have hT1 := sumM_take_le wtT ms (k + 1)
          have hP6 : P ≤ 65536 := by have := sumM_take_le wtT ms k; omega
          have hbt := bodyB_take hm
          have hpl := pre_len k hLe hall
          have qd : ∀ w, Calls Tryz.prog 119 #[.int .i64 m.date] w fun e w' => e = .returned (.string (mk (dec m.date))) ∧ w' = w := fun w => rdec_any m.date o2 (by omega) w
          have hnl := name_length (b := m.name) hP6
          have hdd : (dec m.date).length ≤ 12 := dec_len 11 m.date o2 (by show m.date < 1000000000000; omega)
          have hds : (dec (m.data.length : Nat)).length ≤ 5 := dec_small _ hdl
          have qhh : ∀ w, Calls Tryz.prog 118 #[.string (mk (nameB P m.name)), .string (mk (dec m.date)), .string ⟨#[48]⟩, .string ⟨#[49, 48, 48, 54, 52, 52]⟩, .int .i64 (m.data.length : Nat)] w fun e w' => e = .returned (.string (mk (headB (nameB P m.name) (dec m.date) [48] [48] [49, 48, 48, 54, 52, 52] (dec (m.data.length : Nat))))) ∧ w' = w := fun w => rhead_any (nameB P m.name) (dec m.date) [48] [49, 48, 48, 54, 52, 52] m.data.length (by omega) (by omega) (by decide) (by decide) (by omega) (by omega) w
          have hHHz : (mk (headB (nameB P m.name) (dec m.date) [48] [48] [49, 48, 48, 54, 52, 52] (dec (m.data.length : Nat)))).size = 60 := by rw [mk_size]; exact head_length hnl hdd (by decide) (by decide) (by decide) (by omega)
          have hzN : (mk m.name).size = m.name.length := mk_size _
          by_cases h15 : 15 < m.name.length
          ·have hlng : lng m.name = true := decide_eq_true h15
           have k15 : (15 : Int) < m.name.length := by omega
           have qP : ∀ w, Calls Tryz.prog 119 #[.int .i64 (P : Nat)] w fun e w' => e = .returned (.string (mk (dec (P : Nat)))) ∧ w' = w := fun w => rdec_any P (by omega) (by omega) w
           have hcat : (⟨#[47]⟩ : ByteArray) ++ mk (dec (P : Nat)) = mk (nameB P m.name) := by rw [cat_one']; unfold nameB; rw [if_pos hlng]
           have hwt : wtT m = m.name.length + 2 := by unfold wtT; rw [if_pos hlng]
           have hP' : P + m.name.length + 2 = sumM wtT (ms.take (k + 1)) := by rw [hs2, hwt]; omega
           have hPz : (dec (P : Nat)).length ≤ 5 := dec_small P hP6
           have hPz' : (mk (dec (P : Nat))).size = (dec (P : Nat)).length := mk_size _
           have hC : RmC g (o + k * 3) m.date (.slice da m.data.length dc) wr.drew := ⟨d1, d2⟩
           have hbd' : Bd w.heap.size wr.drew (.slice ba bn bc) (magicB ++ tableB ms ++ bodyB 0 (ms.take k)) := hbk.below ((Below.refl _ _).drew)
           have hN' : w.heap.size ≤ wr.drew.heap.size := hBk.size
           have HX := hide' (And.intro hP (And.intro hbk (And.intro hBk (And.intro hm (And.intro hmem (And.intro hr (And.intro hs2 (And.intro hT1 (And.intro hbt (And.intro hdv (And.intro hP' (And.intro hrd (And.intro hall hw0)))))))))))))
           clear hP hbk hBk hm hmem hr hs2 hT1 hbt hdv hP' hrd hall hw0 hR h hwl hlng hsa hBz hbig hwt
           go_wp2_with fail
           refine (qP _).mono ?_
           rintro r w9' ⟨rfl, rfl⟩
           dsimp only
           clear qP
           go_upto_region 86 with fail
           try rw [hcat]
           refine wp_region_class (C := RmC g (o + k * 3) m.date (.slice da m.data.length dc)) (by kernel_rfl) ?_
           (refine wpAnyC_take (i := 0) (v := ?_) hC rfl (by kernel_rfl) (by kernel_rfl) (by kernel_rfl) (fun _ _ _ h => h) (Or.inl ⟨by kernel_rfl, ?_⟩) ?_; rotate_left; (intro w hc; have f1 := hc.c1; have f2 := hc.c2; clear hc; go_simp; try with_reducible rfl))
           (refine wpAnyC_take (i := 1) (v := ?_) hC rfl (by kernel_rfl) (by kernel_rfl) (by kernel_rfl) (fun _ _ _ h => h) (Or.inl ⟨by kernel_rfl, ?_⟩) ?_; rotate_left; (intro w hc; have f1 := hc.c1; have f2 := hc.c2; clear hc; go_simp; try with_reducible rfl))
           (refine wpAnyC_take (i := 2) (v := ?_) hC rfl (by kernel_rfl) (by kernel_rfl) (by kernel_rfl) (fun _ _ _ h => h) (Or.inl ⟨by kernel_rfl, ?_⟩) ?_; rotate_left; (intro w hc; have f1 := hc.c1; have f2 := hc.c2; clear hc; go_simp; try with_reducible rfl))
           (refine wpAnyC_take (i := 3) (v := ?_) hC rfl (by kernel_rfl) (by kernel_rfl) (by kernel_rfl) (fun _ _ _ h => h) (Or.inl ⟨by kernel_rfl, ?_⟩) ?_; rotate_left; (intro w hc; have f1 := hc.c1; have f2 := hc.c2; clear hc; go_simp; try with_reducible rfl))
           (refine wpAnyC_take (i := 4) (v := ?_) hC rfl (by kernel_rfl) (by kernel_rfl) (by kernel_rfl) (fun _ _ _ h => h) (Or.inl ⟨by kernel_rfl, ?_⟩) ?_; rotate_left; (intro w hc; have f1 := hc.c1; have f2 := hc.c2; clear hc; go_simp; try with_reducible rfl))
           (refine wpAnyC_take (i := 5) (v := ?_) hC rfl (by kernel_rfl) (by kernel_rfl) (by kernel_rfl) (fun _ _ _ h => h) (Or.inl ⟨by kernel_rfl, ?_⟩) ?_; rotate_left; (intro w hc; have f1 := hc.c1; have f2 := hc.c2; clear hc; go_simp; try with_reducible rfl))
           (refine wpAnyC_take (i := 6) (v := ?_) hC rfl (by kernel_rfl) (by kernel_rfl) (by kernel_rfl) (fun _ _ _ h => h) (Or.inl ⟨by kernel_rfl, ?_⟩) ?_; rotate_left; (intro w hc; have f1 := hc.c1; have f2 := hc.c2; clear hc; go_simp; try with_reducible rfl))
           (refine wpAnyC_take (i := 8) (v := ?_) hC rfl (by kernel_rfl) (by kernel_rfl) (by kernel_rfl) (fun _ _ _ h => h) (Or.inl ⟨by kernel_rfl, ?_⟩) ?_; rotate_left; (intro w hc; have f1 := hc.c1; have f2 := hc.c2; clear hc; go_simp; try with_reducible rfl))
           (refine wpAnyC_take (i := 9) (v := ?_) hC rfl (by kernel_rfl) (by kernel_rfl) (by kernel_rfl) (fun _ _ _ h => h) (Or.inl ⟨by kernel_rfl, ?_⟩) ?_; rotate_left; (intro w hc; have f1 := hc.c1; have f2 := hc.c2; clear hc; go_simp; try with_reducible rfl))
           (refine wpAnyC_take (i := 10) (v := ?_) hC rfl (by kernel_rfl) (by kernel_rfl) (by kernel_rfl) (fun _ _ _ h => h) (Or.inl ⟨by kernel_rfl, ?_⟩) ?_; rotate_left; (intro w hc; have f1 := hc.c1; have f2 := hc.c2; clear hc; go_simp; try with_reducible rfl))
           (refine wpAnyC_take (i := 11) (v := ?_) hC rfl (by kernel_rfl) (by kernel_rfl) (by kernel_rfl) (fun _ _ _ h => h) (Or.inl ⟨by kernel_rfl, ?_⟩) ?_; rotate_left; (intro w hc; have f1 := hc.c1; have f2 := hc.c2; clear hc; go_simp; try with_reducible rfl))
           (refine wpAnyC_take (i := 12) (v := ?_) hC rfl (by kernel_rfl) (by kernel_rfl) (by kernel_rfl) (fun _ _ _ h => h) (Or.inl ⟨by kernel_rfl, ?_⟩) ?_; rotate_left; (intro w hc; have f1 := hc.c1; have f2 := hc.c2; clear hc; go_simp; try with_reducible rfl))
           (refine wpAnyC_take (i := 13) (v := ?_) hC rfl (by kernel_rfl) (by kernel_rfl) (by kernel_rfl) (fun _ _ _ h => h) (Or.inl ⟨by kernel_rfl, ?_⟩) ?_; rotate_left; (intro w hc; have f1 := hc.c1; have f2 := hc.c2; clear hc; go_simp; try with_reducible rfl))
           refine wpAnyC_one (i := 7) (by kernel_rfl) (wpOp_wanted rfl (by rfl) ?_)
           go_simp
           refine (qd _).mono ?_
           rintro r w9 ⟨rfl, rfl⟩
           dsimp only
           refine ⟨hC, ?_⟩
           refine wpAnyC_one (i := 14) (by kernel_rfl) (wpOp_wanted rfl (by rfl) ?_)
           go_simp
           refine (qhh _).mono ?_
           rintro r w10 ⟨rfl, rfl⟩
           dsimp only
           refine ⟨hC, ?_⟩
           refine wpAnyC_one (i := 15) (by kernel_rfl) (wpOp_wanted rfl (by rfl) ?_)
           refine wp_append_bd _ _ _ rfl rfl rfl hbd' hN' (by rw [hHHz]; decide) (by rw [hHHz]; omega) ?_
           intro v11 w11 hd11 hO11 hb11
           refine ⟨hC.below hb11 hgN, ?_⟩
           obtain ⟨a11, n11, c11, hv11⟩ := hd11.form
           subst hv11
           refine wpAnyC_one (i := 16) (by kernel_rfl) (wpOp_wanted rfl (by rfl) ?_)
           go_simp
           refine ⟨hC.below hb11 hgN, ?_⟩
           refine wpAnyC_done (by kernel_rfl) ?_ _
           obtain ⟨hP, hbk, hBk, hm, hmem, hr, hs2, hT1, hbt, hdv, hP', hrd, hall, hw0⟩ := HX.out
           rw [tl_mk] at hd11
           have hB11 := hBk.trans (((Below.refl w.heap.size _).drew).trans hb11)
           have hrd11 := (hr m hmem).below hB11
           rw [hdv] at hrd11
           have e2 := (hC.below hb11 hgN).c2
           have hl11 : (magicB ++ tableB ms ++ bodyB 0 (ms.take k) ++ headB (nameB P m.name) (dec m.date) [48] [48] [49, 48, 48, 54, 52, 52] (dec (m.data.length : Nat))).length ≤ 70000 := by
            rw [List.length_append, head_length hnl hdd (by decide) (by decide) (by decide) (by omega)]
            omega
           have hmd := tmod2 m.data.length
           have hd8' : True := trivial
           clear HX hbk hBk hs2 hT1 hrd hbd' hN' hC qd qhh hHHz hcat hzN d0 d1 d2 hb11 hnl hdd hds
           have HY := hide' (And.intro hP (And.intro hm (And.intro hmem (And.intro hr (And.intro hbt (And.intro hdv (And.intro hP' (And.intro hall (And.intro hw0 (And.intro hB11 hO11))))))))))
           clear hP hm hmem hr hbt hdv hP' hall hw0 hB11 hO11
           go_wp2_with (at_builtin; refine wpList_append_dat _ rfl _ _ rfl rfl rfl hd11 hrd11 (by omega) ?_)
           intro v12 w12 hd12 _ hg12 ho12
           obtain ⟨hP, hm, hmem, hr, hbt, hdv, hP', hall, hw0, hB11, hO11⟩ := HY.out
           have hB12 := below_own hB11 hO11 hg12 hB11.size
           have hO12 := hO11.step hB11.size ho12
           have e3 : w12.cell? ⟨g, o + k * 3 + 2, none⟩ = some (.slice da m.data.length dc) := (hg12.cell_far ⟨g, o + k * 3 + 2, none⟩ (Nat.lt_of_lt_of_le hgN hB11.size) (fun e => by have := hO11 g e.symm; omega)).trans e2
           obtain ⟨a12, n12, c12, hv12⟩ := hd12.form
           subst hv12
           clear HY hg12 ho12 hB11 hO11 hd11 e2
           by_cases hodd : m.data.length % 2 = 1
           ·have hov : ((m.data.length : Int) % 2 == 1) = true := beq_iff_eq.2 (by omega)
            have hDB : dataB m.data = m.data ++ [10] := by unfold dataB; rw [if_pos hodd]
            have hb13 : Below w12.heap.size w12 (w12.alloc (.cells #[.int .u8 10] 5)) := (Below.refl _ _).alloc (Nat.le_refl _) _
            have hd13 := hd12.kept fun g hg => hb13.block g (hd12.lt g hg)
            have hr13 := byte_rds w12 10
            have hB13 := hB12.trans (hb13.mono hB12.size)
            have HY := hide' (And.intro hP (And.intro hm (And.intro hmem (And.intro hr (And.intro hbt (And.intro hdv (And.intro hP' (And.intro hall (And.intro hw0 (And.intro hB13 (And.intro hO12 hDB)))))))))))
            clear hP hm hmem hr hbt hdv hP' hall hw0 hB12 hO12 hB13 hDB hd12 hb13
            go_wp2_with (at_builtin; refine wpList_append_dat _ rfl _ _ rfl rfl rfl hd13 hr13 (by simp only [List.length_append, List.length_cons, List.length_nil] at hl11 ⊢; omega) ?_)
            intro v14 w14 hd14 _ hg14 ho14
            obtain ⟨hP, hm, hmem, hr, hbt, hdv, hP', hall, hw0, hB13, hO12, hDB⟩ := HY.out
            have hB14 := below_own hB13 hO12 hg14 hB13.size
            have hO14 := hO12.step hB13.size (by first | exact ho14 | (rw [size_alloc']; exact ho14))
            obtain ⟨a14, n14, c14, hv14⟩ := hd14.form
            subst hv14
            clear HY hg14 ho14 hB13 hO12 hd13 hr13 e3 hmd hov hodd hl11
            have hfin : Bd w.heap.size w14 (.slice a14 n14 c14) (magicB ++ tableB ms ++ bodyB 0 (ms.take (k + 1))) := by
             rw [hbt, ← hP]
             refine .inl ⟨?_, hO14⟩
             have hx := hd14
             unfold memB
             rw [hDB]
             simpa only [List.append_assoc] using hx
            have HX := hide' (And.intro hfin (And.intro hB14 hP'))
            clear hfin hd14 hO14 hB14 hP' hbt hP hr hall hw0 hdv hm hmem hpl hLe hbd hd8'
            go_wp2
            exact ⟨⟨k + 1, P + m.name.length + 2, by omega, by simp, by simp, HX.out.2.2, HX.out.1, HX.out.2.1⟩, by simp [intOf]; omega⟩
           ·have hov : ((m.data.length : Int) % 2 == 1) = false := beq_eq_false_iff_ne.2 (by omega)
            have hDB : dataB m.data = m.data := by unfold dataB; rw [if_neg hodd, List.append_nil]
            have hfin : Bd w.heap.size w12 (.slice a12 n12 c12) (magicB ++ tableB ms ++ bodyB 0 (ms.take (k + 1))) := by
             rw [hbt, ← hP]
             refine .inl ⟨?_, hO12⟩
             have hx := hd12
             unfold memB
             rw [hDB]
             simpa only [List.append_assoc] using hx
            have HX := hide' (And.intro hfin (And.intro hB12 hP'))
            clear hl11 hfin hd12 hO12 hB12 hP' hbt hP hr hall hw0 hdv hm hmem hpl hLe hbd hd8'
            go_wp2
            exact ⟨⟨k + 1, P + m.name.length + 2, by omega, by simp, by simp, HX.out.2.2, HX.out.1, HX.out.2.1⟩, by simp [intOf]; omega⟩
          ·have hlng : ¬ lng m.name = true := fun e => h15 (of_decide_eq_true e)
           have k15 : ¬ (15 : Int) < m.name.length := by omega
           have hcat : mk m.name ++ (⟨#[47]⟩ : ByteArray) = mk (nameB P m.name) := by rw [cat_one]; unfold nameB; rw [if_neg hlng]
           have hwt : wtT m = 0 := by unfold wtT; rw [if_neg hlng]
           have hP' : P = sumM wtT (ms.take (k + 1)) := by rw [hs2, hwt]; omega
           have hC : RmC g (o + k * 3) m.date (.slice da m.data.length dc) wr.drew := ⟨d1, d2⟩
           have hbd' : Bd w.heap.size wr.drew (.slice ba bn bc) (magicB ++ tableB ms ++ bodyB 0 (ms.take k)) := hbk.below ((Below.refl _ _).drew)
           have hN' : w.heap.size ≤ wr.drew.heap.size := hBk.size
           have HX := hide' (And.intro hP (And.intro hbk (And.intro hBk (And.intro hm (And.intro hmem (And.intro hr (And.intro hs2 (And.intro hT1 (And.intro hbt (And.intro hdv (And.intro hP' (And.intro hrd (And.intro hall hw0)))))))))))))
           clear hP hbk hBk hm hmem hr hs2 hT1 hbt hdv hP' hrd hall hw0 hR h hwl hlng hsa hBz hbig hwt
           go_upto_region 86 with fail
           try rw [hcat]
           refine wp_region_class (C := RmC g (o + k * 3) m.date (.slice da m.data.length dc)) (by kernel_rfl) ?_
           (refine wpAnyC_take (i := 0) (v := ?_) hC rfl (by kernel_rfl) (by kernel_rfl) (by kernel_rfl) (fun _ _ _ h => h) (Or.inl ⟨by kernel_rfl, ?_⟩) ?_; rotate_left; (intro w hc; have f1 := hc.c1; have f2 := hc.c2; clear hc; go_simp; try with_reducible rfl))
           (refine wpAnyC_take (i := 1) (v := ?_) hC rfl (by kernel_rfl) (by kernel_rfl) (by kernel_rfl) (fun _ _ _ h => h) (Or.inl ⟨by kernel_rfl, ?_⟩) ?_; rotate_left; (intro w hc; have f1 := hc.c1; have f2 := hc.c2; clear hc; go_simp; try with_reducible rfl))
           (refine wpAnyC_take (i := 2) (v := ?_) hC rfl (by kernel_rfl) (by kernel_rfl) (by kernel_rfl) (fun _ _ _ h => h) (Or.inl ⟨by kernel_rfl, ?_⟩) ?_; rotate_left; (intro w hc; have f1 := hc.c1; have f2 := hc.c2; clear hc; go_simp; try with_reducible rfl))
           (refine wpAnyC_take (i := 3) (v := ?_) hC rfl (by kernel_rfl) (by kernel_rfl) (by kernel_rfl) (fun _ _ _ h => h) (Or.inl ⟨by kernel_rfl, ?_⟩) ?_; rotate_left; (intro w hc; have f1 := hc.c1; have f2 := hc.c2; clear hc; go_simp; try with_reducible rfl))
           (refine wpAnyC_take (i := 4) (v := ?_) hC rfl (by kernel_rfl) (by kernel_rfl) (by kernel_rfl) (fun _ _ _ h => h) (Or.inl ⟨by kernel_rfl, ?_⟩) ?_; rotate_left; (intro w hc; have f1 := hc.c1; have f2 := hc.c2; clear hc; go_simp; try with_reducible rfl))
           (refine wpAnyC_take (i := 5) (v := ?_) hC rfl (by kernel_rfl) (by kernel_rfl) (by kernel_rfl) (fun _ _ _ h => h) (Or.inl ⟨by kernel_rfl, ?_⟩) ?_; rotate_left; (intro w hc; have f1 := hc.c1; have f2 := hc.c2; clear hc; go_simp; try with_reducible rfl))
           (refine wpAnyC_take (i := 6) (v := ?_) hC rfl (by kernel_rfl) (by kernel_rfl) (by kernel_rfl) (fun _ _ _ h => h) (Or.inl ⟨by kernel_rfl, ?_⟩) ?_; rotate_left; (intro w hc; have f1 := hc.c1; have f2 := hc.c2; clear hc; go_simp; try with_reducible rfl))
           (refine wpAnyC_take (i := 8) (v := ?_) hC rfl (by kernel_rfl) (by kernel_rfl) (by kernel_rfl) (fun _ _ _ h => h) (Or.inl ⟨by kernel_rfl, ?_⟩) ?_; rotate_left; (intro w hc; have f1 := hc.c1; have f2 := hc.c2; clear hc; go_simp; try with_reducible rfl))
           (refine wpAnyC_take (i := 9) (v := ?_) hC rfl (by kernel_rfl) (by kernel_rfl) (by kernel_rfl) (fun _ _ _ h => h) (Or.inl ⟨by kernel_rfl, ?_⟩) ?_; rotate_left; (intro w hc; have f1 := hc.c1; have f2 := hc.c2; clear hc; go_simp; try with_reducible rfl))
           (refine wpAnyC_take (i := 10) (v := ?_) hC rfl (by kernel_rfl) (by kernel_rfl) (by kernel_rfl) (fun _ _ _ h => h) (Or.inl ⟨by kernel_rfl, ?_⟩) ?_; rotate_left; (intro w hc; have f1 := hc.c1; have f2 := hc.c2; clear hc; go_simp; try with_reducible rfl))
           (refine wpAnyC_take (i := 11) (v := ?_) hC rfl (by kernel_rfl) (by kernel_rfl) (by kernel_rfl) (fun _ _ _ h => h) (Or.inl ⟨by kernel_rfl, ?_⟩) ?_; rotate_left; (intro w hc; have f1 := hc.c1; have f2 := hc.c2; clear hc; go_simp; try with_reducible rfl))
           (refine wpAnyC_take (i := 12) (v := ?_) hC rfl (by kernel_rfl) (by kernel_rfl) (by kernel_rfl) (fun _ _ _ h => h) (Or.inl ⟨by kernel_rfl, ?_⟩) ?_; rotate_left; (intro w hc; have f1 := hc.c1; have f2 := hc.c2; clear hc; go_simp; try with_reducible rfl))
           (refine wpAnyC_take (i := 13) (v := ?_) hC rfl (by kernel_rfl) (by kernel_rfl) (by kernel_rfl) (fun _ _ _ h => h) (Or.inl ⟨by kernel_rfl, ?_⟩) ?_; rotate_left; (intro w hc; have f1 := hc.c1; have f2 := hc.c2; clear hc; go_simp; try with_reducible rfl))
           refine wpAnyC_one (i := 7) (by kernel_rfl) (wpOp_wanted rfl (by rfl) ?_)
           go_simp
           refine (qd _).mono ?_
           rintro r w9 ⟨rfl, rfl⟩
           dsimp only
           refine ⟨hC, ?_⟩
           refine wpAnyC_one (i := 14) (by kernel_rfl) (wpOp_wanted rfl (by rfl) ?_)
           go_simp
           refine (qhh _).mono ?_
           rintro r w10 ⟨rfl, rfl⟩
           dsimp only
           refine ⟨hC, ?_⟩
           refine wpAnyC_one (i := 15) (by kernel_rfl) (wpOp_wanted rfl (by rfl) ?_)
           refine wp_append_bd _ _ _ rfl rfl rfl hbd' hN' (by rw [hHHz]; decide) (by rw [hHHz]; omega) ?_
           intro v11 w11 hd11 hO11 hb11
           refine ⟨hC.below hb11 hgN, ?_⟩
           obtain ⟨a11, n11, c11, hv11⟩ := hd11.form
           subst hv11
           refine wpAnyC_one (i := 16) (by kernel_rfl) (wpOp_wanted rfl (by rfl) ?_)
           go_simp
           refine ⟨hC.below hb11 hgN, ?_⟩
           refine wpAnyC_done (by kernel_rfl) ?_ _
           obtain ⟨hP, hbk, hBk, hm, hmem, hr, hs2, hT1, hbt, hdv, hP', hrd, hall, hw0⟩ := HX.out
           rw [tl_mk] at hd11
           have hB11 := hBk.trans (((Below.refl w.heap.size _).drew).trans hb11)
           have hrd11 := (hr m hmem).below hB11
           rw [hdv] at hrd11
           have e2 := (hC.below hb11 hgN).c2
           have hl11 : (magicB ++ tableB ms ++ bodyB 0 (ms.take k) ++ headB (nameB P m.name) (dec m.date) [48] [48] [49, 48, 48, 54, 52, 52] (dec (m.data.length : Nat))).length ≤ 70000 := by
            rw [List.length_append, head_length hnl hdd (by decide) (by decide) (by decide) (by omega)]
            omega
           have hmd := tmod2 m.data.length
           have hd8' : True := trivial
           clear HX hbk hBk hs2 hT1 hrd hbd' hN' hC qd qhh hHHz hcat hzN d0 d1 d2 hb11 hnl hdd hds
           have HY := hide' (And.intro hP (And.intro hm (And.intro hmem (And.intro hr (And.intro hbt (And.intro hdv (And.intro hP' (And.intro hall (And.intro hw0 (And.intro hB11 hO11))))))))))
           clear hP hm hmem hr hbt hdv hP' hall hw0 hB11 hO11
           go_wp2_with (at_builtin; refine wpList_append_dat _ rfl _ _ rfl rfl rfl hd11 hrd11 (by omega) ?_)
           intro v12 w12 hd12 _ hg12 ho12
           obtain ⟨hP, hm, hmem, hr, hbt, hdv, hP', hall, hw0, hB11, hO11⟩ := HY.out
           have hB12 := below_own hB11 hO11 hg12 hB11.size
           have hO12 := hO11.step hB11.size ho12
           have e3 : w12.cell? ⟨g, o + k * 3 + 2, none⟩ = some (.slice da m.data.length dc) := (hg12.cell_far ⟨g, o + k * 3 + 2, none⟩ (Nat.lt_of_lt_of_le hgN hB11.size) (fun e => by have := hO11 g e.symm; omega)).trans e2
           obtain ⟨a12, n12, c12, hv12⟩ := hd12.form
           subst hv12
           clear HY hg12 ho12 hB11 hO11 hd11 e2
           by_cases hodd : m.data.length % 2 = 1
           ·have hov : ((m.data.length : Int) % 2 == 1) = true := beq_iff_eq.2 (by omega)
            have hDB : dataB m.data = m.data ++ [10] := by unfold dataB; rw [if_pos hodd]
            have hb13 : Below w12.heap.size w12 (w12.alloc (.cells #[.int .u8 10] 5)) := (Below.refl _ _).alloc (Nat.le_refl _) _
            have hd13 := hd12.kept fun g hg => hb13.block g (hd12.lt g hg)
            have hr13 := byte_rds w12 10
            have hB13 := hB12.trans (hb13.mono hB12.size)
            have HY := hide' (And.intro hP (And.intro hm (And.intro hmem (And.intro hr (And.intro hbt (And.intro hdv (And.intro hP' (And.intro hall (And.intro hw0 (And.intro hB13 (And.intro hO12 hDB)))))))))))
            clear hP hm hmem hr hbt hdv hP' hall hw0 hB12 hO12 hB13 hDB hd12 hb13
            go_wp2_with (at_builtin; refine wpList_append_dat _ rfl _ _ rfl rfl rfl hd13 hr13 (by simp only [List.length_append, List.length_cons, List.length_nil] at hl11 ⊢; omega) ?_)
            intro v14 w14 hd14 _ hg14 ho14
            obtain ⟨hP, hm, hmem, hr, hbt, hdv, hP', hall, hw0, hB13, hO12, hDB⟩ := HY.out
            have hB14 := below_own hB13 hO12 hg14 hB13.size
            have hO14 := hO12.step hB13.size (by first | exact ho14 | (rw [size_alloc']; exact ho14))
            obtain ⟨a14, n14, c14, hv14⟩ := hd14.form
            subst hv14
            clear HY hg14 ho14 hB13 hO12 hd13 hr13 e3 hmd hov hodd hl11
            have hfin : Bd w.heap.size w14 (.slice a14 n14 c14) (magicB ++ tableB ms ++ bodyB 0 (ms.take (k + 1))) := by
             rw [hbt, ← hP]
             refine .inl ⟨?_, hO14⟩
             have hx := hd14
             unfold memB
             rw [hDB]
             simpa only [List.append_assoc] using hx
            have HX := hide' (And.intro hfin (And.intro hB14 hP'))
            clear hfin hd14 hO14 hB14 hP' hbt hP hr hall hw0 hdv hm hmem hpl hLe hbd hd8'
            go_wp2
            exact ⟨⟨k + 1, P, by omega, by simp, by simp, HX.out.2.2, HX.out.1, HX.out.2.1⟩, by simp [intOf]; omega⟩
           ·have hov : ((m.data.length : Int) % 2 == 1) = false := beq_eq_false_iff_ne.2 (by omega)
            have hDB : dataB m.data = m.data := by unfold dataB; rw [if_neg hodd, List.append_nil]
            have hfin : Bd w.heap.size w12 (.slice a12 n12 c12) (magicB ++ tableB ms ++ bodyB 0 (ms.take (k + 1))) := by
             rw [hbt, ← hP]
             refine .inl ⟨?_, hO12⟩
             have hx := hd12
             unfold memB
             rw [hDB]
             simpa only [List.append_assoc] using hx
            have HX := hide' (And.intro hfin (And.intro hB12 hP'))
            clear hl11 hfin hd12 hO12 hB12 hP' hbt hP hr hall hw0 hdv hm hmem hpl hLe hbd hd8'
            go_wp2
            exact ⟨⟨k + 1, P, by omega, by simp, by simp, HX.out.2.2, HX.out.1, HX.out.2.1⟩, by simp [intOf]; omega⟩
         ·obtain rfl : k = ms.length := by omega
          have k2 : ¬ (ms.length : Int) < ms.length := by omega
          rw [List.take_length] at hbk
          have hA : Rds wr (.slice ba bn bc) (archB ms) := hbk.rds
          have HX := hide' (And.intro hA (And.intro hBk hw0))
          clear hA hBk hw0 hbk hP hbd hr hall hsa hBz hbig
          go_wp2
          go_ret2
          exact ⟨HX.out.2.1, .inl ⟨HX.out.2.2, _, rfl, HX.out.1⟩⟩
       ·have hov : ((tz : Int) % 2 == 1) = false := beq_eq_false_iff_ne.2 (by omega)
        have hDB : magicB ++ tableB ms = magicB ++ headB [47, 47] [] [] [] [] (dec (tz : Nat)) ++ tbl ms := by
         unfold tableB dataB
         rw [if_pos hpos, htl, if_neg hodd]
         simp only [List.append_assoc, List.append_nil]
        have hd8 : Dat w6 (.slice a6 n6 c6) (magicB ++ tableB ms) := by rw [hDB]; simpa only [List.append_assoc] using hd6
        have hbd : Bd w.heap.size w6 (.slice a6 n6 c6) (magicB ++ tableB ms) := .inl ⟨hd8, hO6⟩
        have hBz := hB6
        clear hd8 hB6 hO6 hDB hd6 hl5 hodd hpos htl
        go_wp2_with fail
        go_loopw [9, 10, 11, 12] (fun b pl i _ wy => ∃ (k P : Nat), k ≤ ms.length ∧ i = .int .i64 k ∧ pl = .int .i64 P ∧ P = sumM wtT (ms.take k) ∧ Bd w.heap.size wy b (magicB ++ tableB ms ++ bodyB 0 (ms.take k)) ∧ Below w.heap.size w wy) (fun _ _ i _ _ => ms.length - (intOf i).toNat)
        case atStart => exact ⟨0, 0, by omega, rfl, rfl, rfl, by rw [List.take_zero]; unfold bodyB; rw [List.append_nil]; exact hbd, hBz⟩
        case round =>
         obtain ⟨k, P, hk, rfl, rfl, hP, hbk, hBk⟩ := hrel
         obtain ⟨ba, bn, bc, hbv⟩ := hbk.form
         subst hbv
         by_cases hkl3 : k < ms.length
         ·have k2 : (k : Int) < ms.length := by omega
          obtain ⟨m, hm⟩ : ∃ m, ms[k]? = some m := ⟨_, List.getElem?_eq_getElem hkl3⟩
          have hmem := List.mem_of_getElem? hm
          obtain ⟨g, o, hse, h⟩ := hsa (fun e => by rw [e] at hkl3; simp at hkl3)
          subst hse
          have hgN := h.lt
          have hR := h.below hBk
          have d0 := hR.c0 k m hm
          have d1 := hR.c1 k m hm
          have d2 := hR.c2 k m hm
          have hrd := (hr m hmem).below hBk
          obtain ⟨da, dc, hdv⟩ := hrd.len
          rw [hdv] at d2 hrd
          obtain ⟨o1, o2, o3⟩ := ok_parts (List.all_eq_true.1 hall m hmem)
          have hwl := wtD_le hLe
          have hdl := hwl.2.2 m hmem
          have hs2 := sumM_take wtT hm
          have hT1 := sumM_take_le wtT ms (k + 1)
          have hP6 : P ≤ 65536 := by have := sumM_take_le wtT ms k; omega
          have hbt := bodyB_take hm
          have hpl := pre_len k hLe hall
          have qd : ∀ w, Calls Tryz.prog 119 #[.int .i64 m.date] w fun e w' => e = .returned (.string (mk (dec m.date))) ∧ w' = w := fun w => rdec_any m.date o2 (by omega) w
          have hnl := name_length (b := m.name) hP6
          have hdd : (dec m.date).length ≤ 12 := dec_len 11 m.date o2 (by show m.date < 1000000000000; omega)
          have hds : (dec (m.data.length : Nat)).length ≤ 5 := dec_small _ hdl
          have qhh : ∀ w, Calls Tryz.prog 118 #[.string (mk (nameB P m.name)), .string (mk (dec m.date)), .string ⟨#[48]⟩, .string ⟨#[49, 48, 48, 54, 52, 52]⟩, .int .i64 (m.data.length : Nat)] w fun e w' => e = .returned (.string (mk (headB (nameB P m.name) (dec m.date) [48] [48] [49, 48, 48, 54, 52, 52] (dec (m.data.length : Nat))))) ∧ w' = w := fun w => rhead_any (nameB P m.name) (dec m.date) [48] [49, 48, 48, 54, 52, 52] m.data.length (by omega) (by omega) (by decide) (by decide) (by omega) (by omega) w
          have hHHz : (mk (headB (nameB P m.name) (dec m.date) [48] [48] [49, 48, 48, 54, 52, 52] (dec (m.data.length : Nat)))).size = 60 := by rw [mk_size]; exact head_length hnl hdd (by decide) (by decide) (by decide) (by omega)
          have hzN : (mk m.name).size = m.name.length := mk_size _
          by_cases h15 : 15 < m.name.length
          ·have hlng : lng m.name = true := decide_eq_true h15
           have k15 : (15 : Int) < m.name.length := by omega
           have qP : ∀ w, Calls Tryz.prog 119 #[.int .i64 (P : Nat)] w fun e w' => e = .returned (.string (mk (dec (P : Nat)))) ∧ w' = w := fun w => rdec_any P (by omega) (by omega) w
           have hcat : (⟨#[47]⟩ : ByteArray) ++ mk (dec (P : Nat)) = mk (nameB P m.name) := by rw [cat_one']; unfold nameB; rw [if_pos hlng]
           have hwt : wtT m = m.name.length + 2 := by unfold wtT; rw [if_pos hlng]
           have hP' : P + m.name.length + 2 = sumM wtT (ms.take (k + 1)) := by rw [hs2, hwt]; omega
           have hPz : (dec (P : Nat)).length ≤ 5 := dec_small P hP6
           have hPz' : (mk (dec (P : Nat))).size = (dec (P : Nat)).length := mk_size _
           have hC : RmC g (o + k * 3) m.date (.slice da m.data.length dc) wr.drew := ⟨d1, d2⟩
           have hbd' : Bd w.heap.size wr.drew (.slice ba bn bc) (magicB ++ tableB ms ++ bodyB 0 (ms.take k)) := hbk.below ((Below.refl _ _).drew)
           have hN' : w.heap.size ≤ wr.drew.heap.size := hBk.size
           have HX := hide' (And.intro hP (And.intro hbk (And.intro hBk (And.intro hm (And.intro hmem (And.intro hr (And.intro hs2 (And.intro hT1 (And.intro hbt (And.intro hdv (And.intro hP' (And.intro hrd (And.intro hall hw0)))))))))))))
           clear hP hbk hBk hm hmem hr hs2 hT1 hbt hdv hP' hrd hall hw0 hR h hwl hlng hsa hBz hbig hwt
           go_wp2_with fail
           refine (qP _).mono ?_
           rintro r w9' ⟨rfl, rfl⟩
           dsimp only
           clear qP
           go_upto_region 86 with fail
           try rw [hcat]
           refine wp_region_class (C := RmC g (o + k * 3) m.date (.slice da m.data.length dc)) (by kernel_rfl) ?_
           (refine wpAnyC_take (i := 0) (v := ?_) hC rfl (by kernel_rfl) (by kernel_rfl) (by kernel_rfl) (fun _ _ _ h => h) (Or.inl ⟨by kernel_rfl, ?_⟩) ?_; rotate_left; (intro w hc; have f1 := hc.c1; have f2 := hc.c2; clear hc; go_simp; try with_reducible rfl))
           (refine wpAnyC_take (i := 1) (v := ?_) hC rfl (by kernel_rfl) (by kernel_rfl) (by kernel_rfl) (fun _ _ _ h => h) (Or.inl ⟨by kernel_rfl, ?_⟩) ?_; rotate_left; (intro w hc; have f1 := hc.c1; have f2 := hc.c2; clear hc; go_simp; try with_reducible rfl))
           (refine wpAnyC_take (i := 2) (v := ?_) hC rfl (by kernel_rfl) (by kernel_rfl) (by kernel_rfl) (fun _ _ _ h => h) (Or.inl ⟨by kernel_rfl, ?_⟩) ?_; rotate_left; (intro w hc; have f1 := hc.c1; have f2 := hc.c2; clear hc; go_simp; try with_reducible rfl))
           (refine wpAnyC_take (i := 3) (v := ?_) hC rfl (by kernel_rfl) (by kernel_rfl) (by kernel_rfl) (fun _ _ _ h => h) (Or.inl ⟨by kernel_rfl, ?_⟩) ?_; rotate_left; (intro w hc; have f1 := hc.c1; have f2 := hc.c2; clear hc; go_simp; try with_reducible rfl))
           (refine wpAnyC_take (i := 4) (v := ?_) hC rfl (by kernel_rfl) (by kernel_rfl) (by kernel_rfl) (fun _ _ _ h => h) (Or.inl ⟨by kernel_rfl, ?_⟩) ?_; rotate_left; (intro w hc; have f1 := hc.c1; have f2 := hc.c2; clear hc; go_simp; try with_reducible rfl))
           (refine wpAnyC_take (i := 5) (v := ?_) hC rfl (by kernel_rfl) (by kernel_rfl) (by kernel_rfl) (fun _ _ _ h => h) (Or.inl ⟨by kernel_rfl, ?_⟩) ?_; rotate_left; (intro w hc; have f1 := hc.c1; have f2 := hc.c2; clear hc; go_simp; try with_reducible rfl))
           (refine wpAnyC_take (i := 6) (v := ?_) hC rfl (by kernel_rfl) (by kernel_rfl) (by kernel_rfl) (fun _ _ _ h => h) (Or.inl ⟨by kernel_rfl, ?_⟩) ?_; rotate_left; (intro w hc; have f1 := hc.c1; have f2 := hc.c2; clear hc; go_simp; try with_reducible rfl))
           (refine wpAnyC_take (i := 8) (v := ?_) hC rfl (by kernel_rfl) (by kernel_rfl) (by kernel_rfl) (fun _ _ _ h => h) (Or.inl ⟨by kernel_rfl, ?_⟩) ?_; rotate_left; (intro w hc; have f1 := hc.c1; have f2 := hc.c2; clear hc; go_simp; try with_reducible rfl))
           (refine wpAnyC_take (i := 9) (v := ?_) hC rfl (by kernel_rfl) (by kernel_rfl) (by kernel_rfl) (fun _ _ _ h => h) (Or.inl ⟨by kernel_rfl, ?_⟩) ?_; rotate_left; (intro w hc; have f1 := hc.c1; have f2 := hc.c2; clear hc; go_simp; try with_reducible rfl))
           (refine wpAnyC_take (i := 10) (v := ?_) hC rfl (by kernel_rfl) (by kernel_rfl) (by kernel_rfl) (fun _ _ _ h => h) (Or.inl ⟨by kernel_rfl, ?_⟩) ?_; rotate_left; (intro w hc; have f1 := hc.c1; have f2 := hc.c2; clear hc; go_simp; try with_reducible rfl))
           (refine wpAnyC_take (i := 11) (v := ?_) hC rfl (by kernel_rfl) (by kernel_rfl) (by kernel_rfl) (fun _ _ _ h => h) (Or.inl ⟨by kernel_rfl, ?_⟩) ?_; rotate_left; (intro w hc; have f1 := hc.c1; have f2 := hc.c2; clear hc; go_simp; try with_reducible rfl))
           (refine wpAnyC_take (i := 12) (v := ?_) hC rfl (by kernel_rfl) (by kernel_rfl) (by kernel_rfl) (fun _ _ _ h => h) (Or.inl ⟨by kernel_rfl, ?_⟩) ?_; rotate_left; (intro w hc; have f1 := hc.c1; have f2 := hc.c2; clear hc; go_simp; try with_reducible rfl))
           (refine wpAnyC_take (i := 13) (v := ?_) hC rfl (by kernel_rfl) (by kernel_rfl) (by kernel_rfl) (fun _ _ _ h => h) (Or.inl ⟨by kernel_rfl, ?_⟩) ?_; rotate_left; (intro w hc; have f1 := hc.c1; have f2 := hc.c2; clear hc; go_simp; try with_reducible rfl))
           refine wpAnyC_one (i := 7) (by kernel_rfl) (wpOp_wanted rfl (by rfl) ?_)
           go_simp
           refine (qd _).mono ?_
           rintro r w9 ⟨rfl, rfl⟩
           dsimp only
           refine ⟨hC, ?_⟩
           refine wpAnyC_one (i := 14) (by kernel_rfl) (wpOp_wanted rfl (by rfl) ?_)
           go_simp
           refine (qhh _).mono ?_
           rintro r w10 ⟨rfl, rfl⟩
           dsimp only
           refine ⟨hC, ?_⟩
           refine wpAnyC_one (i := 15) (by kernel_rfl) (wpOp_wanted rfl (by rfl) ?_)
           refine wp_append_bd _ _ _ rfl rfl rfl hbd' hN' (by rw [hHHz]; decide) (by rw [hHHz]; omega) ?_
           intro v11 w11 hd11 hO11 hb11
           refine ⟨hC.below hb11 hgN, ?_⟩
           obtain ⟨a11, n11, c11, hv11⟩ := hd11.form
           subst hv11
           refine wpAnyC_one (i := 16) (by kernel_rfl) (wpOp_wanted rfl (by rfl) ?_)
           go_simp
           refine ⟨hC.below hb11 hgN, ?_⟩
           refine wpAnyC_done (by kernel_rfl) ?_ _
           obtain ⟨hP, hbk, hBk, hm, hmem, hr, hs2, hT1, hbt, hdv, hP', hrd, hall, hw0⟩ := HX.out
           rw [tl_mk] at hd11
           have hB11 := hBk.trans (((Below.refl w.heap.size _).drew).trans hb11)
           have hrd11 := (hr m hmem).below hB11
           rw [hdv] at hrd11
           have e2 := (hC.below hb11 hgN).c2
           have hl11 : (magicB ++ tableB ms ++ bodyB 0 (ms.take k) ++ headB (nameB P m.name) (dec m.date) [48] [48] [49, 48, 48, 54, 52, 52] (dec (m.data.length : Nat))).length ≤ 70000 := by
            rw [List.length_append, head_length hnl hdd (by decide) (by decide) (by decide) (by omega)]
            omega
           have hmd := tmod2 m.data.length
           have hd8' : True := trivial
           clear HX hbk hBk hs2 hT1 hrd hbd' hN' hC qd qhh hHHz hcat hzN d0 d1 d2 hb11 hnl hdd hds
           have HY := hide' (And.intro hP (And.intro hm (And.intro hmem (And.intro hr (And.intro hbt (And.intro hdv (And.intro hP' (And.intro hall (And.intro hw0 (And.intro hB11 hO11))))))))))
           clear hP hm hmem hr hbt hdv hP' hall hw0 hB11 hO11
           go_wp2_with (at_builtin; refine wpList_append_dat _ rfl _ _ rfl rfl rfl hd11 hrd11 (by omega) ?_)
           intro v12 w12 hd12 _ hg12 ho12
           obtain ⟨hP, hm, hmem, hr, hbt, hdv, hP', hall, hw0, hB11, hO11⟩ := HY.out
           have hB12 := below_own hB11 hO11 hg12 hB11.size
           have hO12 := hO11.step hB11.size ho12
           have e3 : w12.cell? ⟨g, o + k * 3 + 2, none⟩ = some (.slice da m.data.length dc) := (hg12.cell_far ⟨g, o + k * 3 + 2, none⟩ (Nat.lt_of_lt_of_le hgN hB11.size) (fun e => by have := hO11 g e.symm; omega)).trans e2
           obtain ⟨a12, n12, c12, hv12⟩ := hd12.form
           subst hv12
           clear HY hg12 ho12 hB11 hO11 hd11 e2
           by_cases hodd : m.data.length % 2 = 1
           ·have hov : ((m.data.length : Int) % 2 == 1) = true := beq_iff_eq.2 (by omega)
            have hDB : dataB m.data = m.data ++ [10] := by unfold dataB; rw [if_pos hodd]
            have hb13 : Below w12.heap.size w12 (w12.alloc (.cells #[.int .u8 10] 5)) := (Below.refl _ _).alloc (Nat.le_refl _) _
            have hd13 := hd12.kept fun g hg => hb13.block g (hd12.lt g hg)
            have hr13 := byte_rds w12 10
            have hB13 := hB12.trans (hb13.mono hB12.size)
            have HY := hide' (And.intro hP (And.intro hm (And.intro hmem (And.intro hr (And.intro hbt (And.intro hdv (And.intro hP' (And.intro hall (And.intro hw0 (And.intro hB13 (And.intro hO12 hDB)))))))))))
            clear hP hm hmem hr hbt hdv hP' hall hw0 hB12 hO12 hB13 hDB hd12 hb13
            go_wp2_with (at_builtin; refine wpList_append_dat _ rfl _ _ rfl rfl rfl hd13 hr13 (by simp only [List.length_append, List.length_cons, List.length_nil] at hl11 ⊢; omega) ?_)
            intro v14 w14 hd14 _ hg14 ho14
            obtain ⟨hP, hm, hmem, hr, hbt, hdv, hP', hall, hw0, hB13, hO12, hDB⟩ := HY.out
            have hB14 := below_own hB13 hO12 hg14 hB13.size
            have hO14 := hO12.step hB13.size (by first | exact ho14 | (rw [size_alloc']; exact ho14))
            obtain ⟨a14, n14, c14, hv14⟩ := hd14.form
            subst hv14
            clear HY hg14 ho14 hB13 hO12 hd13 hr13 e3 hmd hov hodd hl11
            have hfin : Bd w.heap.size w14 (.slice a14 n14 c14) (magicB ++ tableB ms ++ bodyB 0 (ms.take (k + 1))) := by
             rw [hbt, ← hP]
             refine .inl ⟨?_, hO14⟩
             have hx := hd14
             unfold memB
             rw [hDB]
             simpa only [List.append_assoc] using hx
            have HX := hide' (And.intro hfin (And.intro hB14 hP'))
            clear hfin hd14 hO14 hB14 hP' hbt hP hr hall hw0 hdv hm hmem hpl hLe hbd hd8'
            go_wp2
            exact ⟨⟨k + 1, P + m.name.length + 2, by omega, by simp, by simp, HX.out.2.2, HX.out.1, HX.out.2.1⟩, by simp [intOf]; omega⟩
           ·have hov : ((m.data.length : Int) % 2 == 1) = false := beq_eq_false_iff_ne.2 (by omega)
            have hDB : dataB m.data = m.data := by unfold dataB; rw [if_neg hodd, List.append_nil]
            have hfin : Bd w.heap.size w12 (.slice a12 n12 c12) (magicB ++ tableB ms ++ bodyB 0 (ms.take (k + 1))) := by
             rw [hbt, ← hP]
             refine .inl ⟨?_, hO12⟩
             have hx := hd12
             unfold memB
             rw [hDB]
             simpa only [List.append_assoc] using hx
            have HX := hide' (And.intro hfin (And.intro hB12 hP'))
            clear hl11 hfin hd12 hO12 hB12 hP' hbt hP hr hall hw0 hdv hm hmem hpl hLe hbd hd8'
            go_wp2
            exact ⟨⟨k + 1, P + m.name.length + 2, by omega, by simp, by simp, HX.out.2.2, HX.out.1, HX.out.2.1⟩, by simp [intOf]; omega⟩
          ·have hlng : ¬ lng m.name = true := fun e => h15 (of_decide_eq_true e)
           have k15 : ¬ (15 : Int) < m.name.length := by omega
           have hcat : mk m.name ++ (⟨#[47]⟩ : ByteArray) = mk (nameB P m.name) := by rw [cat_one]; unfold nameB; rw [if_neg hlng]
           have hwt : wtT m = 0 := by unfold wtT; rw [if_neg hlng]
           have hP' : P = sumM wtT (ms.take (k + 1)) := by rw [hs2, hwt]; omega
           have hC : RmC g (o + k * 3) m.date (.slice da m.data.length dc) wr.drew := ⟨d1, d2⟩
           have hbd' : Bd w.heap.size wr.drew (.slice ba bn bc) (magicB ++ tableB ms ++ bodyB 0 (ms.take k)) := hbk.below ((Below.refl _ _).drew)
           have hN' : w.heap.size ≤ wr.drew.heap.size := hBk.size
           have HX := hide' (And.intro hP (And.intro hbk (And.intro hBk (And.intro hm (And.intro hmem (And.intro hr (And.intro hs2 (And.intro hT1 (And.intro hbt (And.intro hdv (And.intro hP' (And.intro hrd (And.intro hall hw0)))))))))))))
           clear hP hbk hBk hm hmem hr hs2 hT1 hbt hdv hP' hrd hall hw0 hR h hwl hlng hsa hBz hbig hwt
           go_upto_region 86 with fail
           try rw [hcat]
           refine wp_region_class (C := RmC g (o + k * 3) m.date (.slice da m.data.length dc)) (by kernel_rfl) ?_
           (refine wpAnyC_take (i := 0) (v := ?_) hC rfl (by kernel_rfl) (by kernel_rfl) (by kernel_rfl) (fun _ _ _ h => h) (Or.inl ⟨by kernel_rfl, ?_⟩) ?_; rotate_left; (intro w hc; have f1 := hc.c1; have f2 := hc.c2; clear hc; go_simp; try with_reducible rfl))
           (refine wpAnyC_take (i := 1) (v := ?_) hC rfl (by kernel_rfl) (by kernel_rfl) (by kernel_rfl) (fun _ _ _ h => h) (Or.inl ⟨by kernel_rfl, ?_⟩) ?_; rotate_left; (intro w hc; have f1 := hc.c1; have f2 := hc.c2; clear hc; go_simp; try with_reducible rfl))
           (refine wpAnyC_take (i := 2) (v := ?_) hC rfl (by kernel_rfl) (by kernel_rfl) (by kernel_rfl) (fun _ _ _ h => h) (Or.inl ⟨by kernel_rfl, ?_⟩) ?_; rotate_left; (intro w hc; have f1 := hc.c1; have f2 := hc.c2; clear hc; go_simp; try with_reducible rfl))
           (refine wpAnyC_take (i := 3) (v := ?_) hC rfl (by kernel_rfl) (by kernel_rfl) (by kernel_rfl) (fun _ _ _ h => h) (Or.inl ⟨by kernel_rfl, ?_⟩) ?_; rotate_left; (intro w hc; have f1 := hc.c1; have f2 := hc.c2; clear hc; go_simp; try with_reducible rfl))
           (refine wpAnyC_take (i := 4) (v := ?_) hC rfl (by kernel_rfl) (by kernel_rfl) (by kernel_rfl) (fun _ _ _ h => h) (Or.inl ⟨by kernel_rfl, ?_⟩) ?_; rotate_left; (intro w hc; have f1 := hc.c1; have f2 := hc.c2; clear hc; go_simp; try with_reducible rfl))
           (refine wpAnyC_take (i := 5) (v := ?_) hC rfl (by kernel_rfl) (by kernel_rfl) (by kernel_rfl) (fun _ _ _ h => h) (Or.inl ⟨by kernel_rfl, ?_⟩) ?_; rotate_left; (intro w hc; have f1 := hc.c1; have f2 := hc.c2; clear hc; go_simp; try with_reducible rfl))
           (refine wpAnyC_take (i := 6) (v := ?_) hC rfl (by kernel_rfl) (by kernel_rfl) (by kernel_rfl) (fun _ _ _ h => h) (Or.inl ⟨by kernel_rfl, ?_⟩) ?_; rotate_left; (intro w hc; have f1 := hc.c1; have f2 := hc.c2; clear hc; go_simp; try with_reducible rfl))
           (refine wpAnyC_take (i := 8) (v := ?_) hC rfl (by kernel_rfl) (by kernel_rfl) (by kernel_rfl) (fun _ _ _ h => h) (Or.inl ⟨by kernel_rfl, ?_⟩) ?_; rotate_left; (intro w hc; have f1 := hc.c1; have f2 := hc.c2; clear hc; go_simp; try with_reducible rfl))
           (refine wpAnyC_take (i := 9) (v := ?_) hC rfl (by kernel_rfl) (by kernel_rfl) (by kernel_rfl) (fun _ _ _ h => h) (Or.inl ⟨by kernel_rfl, ?_⟩) ?_; rotate_left; (intro w hc; have f1 := hc.c1; have f2 := hc.c2; clear hc; go_simp; try with_reducible rfl))
           (refine wpAnyC_take (i := 10) (v := ?_) hC rfl (by kernel_rfl) (by kernel_rfl) (by kernel_rfl) (fun _ _ _ h => h) (Or.inl ⟨by kernel_rfl, ?_⟩) ?_; rotate_left; (intro w hc; have f1 := hc.c1; have f2 := hc.c2; clear hc; go_simp; try with_reducible rfl))
           (refine wpAnyC_take (i := 11) (v := ?_) hC rfl (by kernel_rfl) (by kernel_rfl) (by kernel_rfl) (fun _ _ _ h => h) (Or.inl ⟨by kernel_rfl, ?_⟩) ?_; rotate_left; (intro w hc; have f1 := hc.c1; have f2 := hc.c2; clear hc; go_simp; try with_reducible rfl))
           (refine wpAnyC_take (i := 12) (v := ?_) hC rfl (by kernel_rfl) (by kernel_rfl) (by kernel_rfl) (fun _ _ _ h => h) (Or.inl ⟨by kernel_rfl, ?_⟩) ?_; rotate_left; (intro w hc; have f1 := hc.c1; have f2 := hc.c2; clear hc; go_simp; try with_reducible rfl))
           (refine wpAnyC_take (i := 13) (v := ?_) hC rfl (by kernel_rfl) (by kernel_rfl) (by kernel_rfl) (fun _ _ _ h => h) (Or.inl ⟨by kernel_rfl, ?_⟩) ?_; rotate_left; (intro w hc; have f1 := hc.c1; have f2 := hc.c2; clear hc; go_simp; try with_reducible rfl))
           refine wpAnyC_one (i := 7) (by kernel_rfl) (wpOp_wanted rfl (by rfl) ?_)
           go_simp
           refine (qd _).mono ?_
           rintro r w9 ⟨rfl, rfl⟩
           dsimp only
           refine ⟨hC, ?_⟩
           refine wpAnyC_one (i := 14) (by kernel_rfl) (wpOp_wanted rfl (by rfl) ?_)
           go_simp
           refine (qhh _).mono ?_
           rintro r w10 ⟨rfl, rfl⟩
           dsimp only
           refine ⟨hC, ?_⟩
           refine wpAnyC_one (i := 15) (by kernel_rfl) (wpOp_wanted rfl (by rfl) ?_)
           refine wp_append_bd _ _ _ rfl rfl rfl hbd' hN' (by rw [hHHz]; decide) (by rw [hHHz]; omega) ?_
           intro v11 w11 hd11 hO11 hb11
           refine ⟨hC.below hb11 hgN, ?_⟩
           obtain ⟨a11, n11, c11, hv11⟩ := hd11.form
           subst hv11
           refine wpAnyC_one (i := 16) (by kernel_rfl) (wpOp_wanted rfl (by rfl) ?_)
           go_simp
           refine ⟨hC.below hb11 hgN, ?_⟩
           refine wpAnyC_done (by kernel_rfl) ?_ _
           obtain ⟨hP, hbk, hBk, hm, hmem, hr, hs2, hT1, hbt, hdv, hP', hrd, hall, hw0⟩ := HX.out
           rw [tl_mk] at hd11
           have hB11 := hBk.trans (((Below.refl w.heap.size _).drew).trans hb11)
           have hrd11 := (hr m hmem).below hB11
           rw [hdv] at hrd11
           have e2 := (hC.below hb11 hgN).c2
           have hl11 : (magicB ++ tableB ms ++ bodyB 0 (ms.take k) ++ headB (nameB P m.name) (dec m.date) [48] [48] [49, 48, 48, 54, 52, 52] (dec (m.data.length : Nat))).length ≤ 70000 := by
            rw [List.length_append, head_length hnl hdd (by decide) (by decide) (by decide) (by omega)]
            omega
           have hmd := tmod2 m.data.length
           have hd8' : True := trivial
           clear HX hbk hBk hs2 hT1 hrd hbd' hN' hC qd qhh hHHz hcat hzN d0 d1 d2 hb11 hnl hdd hds
           have HY := hide' (And.intro hP (And.intro hm (And.intro hmem (And.intro hr (And.intro hbt (And.intro hdv (And.intro hP' (And.intro hall (And.intro hw0 (And.intro hB11 hO11))))))))))
           clear hP hm hmem hr hbt hdv hP' hall hw0 hB11 hO11
           go_wp2_with (at_builtin; refine wpList_append_dat _ rfl _ _ rfl rfl rfl hd11 hrd11 (by omega) ?_)
           intro v12 w12 hd12 _ hg12 ho12
           obtain ⟨hP, hm, hmem, hr, hbt, hdv, hP', hall, hw0, hB11, hO11⟩ := HY.out
           have hB12 := below_own hB11 hO11 hg12 hB11.size
           have hO12 := hO11.step hB11.size ho12
           have e3 : w12.cell? ⟨g, o + k * 3 + 2, none⟩ = some (.slice da m.data.length dc) := (hg12.cell_far ⟨g, o + k * 3 + 2, none⟩ (Nat.lt_of_lt_of_le hgN hB11.size) (fun e => by have := hO11 g e.symm; omega)).trans e2
           obtain ⟨a12, n12, c12, hv12⟩ := hd12.form
           subst hv12
           clear HY hg12 ho12 hB11 hO11 hd11 e2
           by_cases hodd : m.data.length % 2 = 1
           ·have hov : ((m.data.length : Int) % 2 == 1) = true := beq_iff_eq.2 (by omega)
            have hDB : dataB m.data = m.data ++ [10] := by unfold dataB; rw [if_pos hodd]
            have hb13 : Below w12.heap.size w12 (w12.alloc (.cells #[.int .u8 10] 5)) := (Below.refl _ _).alloc (Nat.le_refl _) _
            have hd13 := hd12.kept fun g hg => hb13.block g (hd12.lt g hg)
            have hr13 := byte_rds w12 10
            have hB13 := hB12.trans (hb13.mono hB12.size)
            have HY := hide' (And.intro hP (And.intro hm (And.intro hmem (And.intro hr (And.intro hbt (And.intro hdv (And.intro hP' (And.intro hall (And.intro hw0 (And.intro hB13 (And.intro hO12 hDB)))))))))))
            clear hP hm hmem hr hbt hdv hP' hall hw0 hB12 hO12 hB13 hDB hd12 hb13
            go_wp2_with (at_builtin; refine wpList_append_dat _ rfl _ _ rfl rfl rfl hd13 hr13 (by simp only [List.length_append, List.length_cons, List.length_nil] at hl11 ⊢; omega) ?_)
            intro v14 w14 hd14 _ hg14 ho14
            obtain ⟨hP, hm, hmem, hr, hbt, hdv, hP', hall, hw0, hB13, hO12, hDB⟩ := HY.out
            have hB14 := below_own hB13 hO12 hg14 hB13.size
            have hO14 := hO12.step hB13.size (by first | exact ho14 | (rw [size_alloc']; exact ho14))
            obtain ⟨a14, n14, c14, hv14⟩ := hd14.form
            subst hv14
            clear HY hg14 ho14 hB13 hO12 hd13 hr13 e3 hmd hov hodd hl11
            have hfin : Bd w.heap.size w14 (.slice a14 n14 c14) (magicB ++ tableB ms ++ bodyB 0 (ms.take (k + 1))) := by
             rw [hbt, ← hP]
             refine .inl ⟨?_, hO14⟩
             have hx := hd14
             unfold memB
             rw [hDB]
             simpa only [List.append_assoc] using hx
            have HX := hide' (And.intro hfin (And.intro hB14 hP'))
            clear hfin hd14 hO14 hB14 hP' hbt hP hr hall hw0 hdv hm hmem hpl hLe hbd hd8'
            go_wp2
            exact ⟨⟨k + 1, P, by omega, by simp, by simp, HX.out.2.2, HX.out.1, HX.out.2.1⟩, by simp [intOf]; omega⟩
           ·have hov : ((m.data.length : Int) % 2 == 1) = false := beq_eq_false_iff_ne.2 (by omega)
            have hDB : dataB m.data = m.data := by unfold dataB; rw [if_neg hodd, List.append_nil]
            have hfin : Bd w.heap.size w12 (.slice a12 n12 c12) (magicB ++ tableB ms ++ bodyB 0 (ms.take (k + 1))) := by
             rw [hbt, ← hP]
             refine .inl ⟨?_, hO12⟩
             have hx := hd12
             unfold memB
             rw [hDB]
             simpa only [List.append_assoc] using hx
            have HX := hide' (And.intro hfin (And.intro hB12 hP'))
            clear hl11 hfin hd12 hO12 hB12 hP' hbt hP hr hall hw0 hdv hm hmem hpl hLe hbd hd8'
            go_wp2
            exact ⟨⟨k + 1, P, by omega, by simp, by simp, HX.out.2.2, HX.out.1, HX.out.2.1⟩, by simp [intOf]; omega⟩
         ·obtain rfl : k = ms.length := by omega
          have k2 : ¬ (ms.length : Int) < ms.length := by omega
          rw [List.take_length] at hbk
          have hA : Rds wr (.slice ba bn bc) (archB ms) := hbk.rds
          have HX := hide' (And.intro hA (And.intro hBk hw0))
          clear hA hBk hw0 hbk hP hbd hr hall hsa hBz hbig
          go_wp2
          go_ret2
          exact ⟨HX.out.2.1, .inl ⟨HX.out.2.2, _, rfl, HX.out.1⟩⟩
   ·have hA := lenA_none hT0
    have t0 : ¬ (0 : Int) < (sumM wtT ms : Nat) := by omega
    by_cases hL : 65536 < lenA ms
    ·have hw := wrong_long (ms := ms) (.inr hL)
     have k3 : (65536 : Int) < (s : Int) := by omega
     have HK := hide' (And.intro hw hB)
     clear hw hB hsa hr hA hL hs hD hT hDk hTk hbig
     generalize sumM wtT ms = tz at *
     generalize mk (tbl ms) = TS at *
     go_wp2
     go_ret2
     exact ⟨HK.out.2, .inr ⟨by rw [HK.out.1]; decide, by rw [HK.out.1]; rfl⟩⟩
    ·have hLe : lenA ms ≤ 65536 := by omega
     have k3 : ¬ (65536 : Int) < (s : Int) := by omega
     have htb : magicB ++ tableB ms = magicB := by
      unfold tableB
      rw [if_neg (by rw [tbl_len]; exact hT0), List.append_nil]
     have HT := hide' htb
     have HA := hide' (And.intro hA (And.intro hs hL))
     clear hA hL hs htb
     obtain ⟨tz, htz⟩ : ∃ tz, tz = sumM wtT ms := ⟨_, rfl⟩
     obtain ⟨TS, hTS⟩ : ∃ TS, TS = mk (tbl ms) := ⟨_, rfl⟩
     rw [← htz] at hzT hmod t0 l3 hT0
     rw [← hTS] at hzT ⊢
     clear htz hTS
     go_wp2_with fail
     go_loopw [7, 8] (fun i _ wy => ∃ k : Nat, k ≤ ms.length ∧ i = .int .i64 k ∧ (∀ m ∈ ms.take k, okM m = true) ∧ Below w.heap.size w wy) (fun i _ _ => ms.length - (intOf i).toNat)
     case atStart => exact ⟨0, by omega, rfl, fun m hm => (by simp at hm), hB⟩
     case round =>
      skip
      obtain ⟨k, hk, rfl, hok, hB2⟩ := hrel
      by_cases hkl2 : k < ms.length
      ·have k2 : (k : Int) < ms.length := by omega
       obtain ⟨m, hm⟩ : ∃ m, ms[k]? = some m := ⟨_, List.getElem?_eq_getElem hkl2⟩
       have hmem := List.mem_of_getElem? hm
       obtain ⟨g, o, hse, h⟩ := hsa (fun e => by rw [e] at hkl2; simp at hkl2)
       subst hse
       have hR := h.below hB2
       have d0 := hR.c0 k m hm
       have d1 := hR.c1 k m hm
       have d2 := hR.c2 k m hm
       obtain ⟨da, dc, hdv⟩ := (hr m hmem).len
       rw [hdv] at d2
       have hb3 := hsm m hmem
       have hwb : wtB m = 1 + m.data.length + m.name.length := rfl
       have qf := fair_any m.name m.date da m.data.length dc m.data (by omega) wr
       have hoe : okM ⟨m.name, m.date, .slice da m.data.length dc, m.data⟩ = okM m := rfl
       rw [hoe] at qf
       cases hom : okM m with
       | true =>
        rw [hom] at qf
        have hok2 : ∀ x ∈ ms.take (k + 1), okM x = true := fun x hx => by
         rw [List.take_add_one, hm] at hx
         rcases List.mem_append.1 hx with hx | hx
         ·exact hok x hx
         ·obtain rfl : x = m := by simpa using hx
          exact hom
        have HK := hide' (And.intro hok2 hB2)
        clear hok2 hom hoe hok hB2 hR h hm hmem hb3 hwb hsa hr hD hT hDk hTk hbig hdv hB
        go_wp2_with fail
        refine qf.mono ?_
        rintro r w3 ⟨rfl, hb3⟩
        dsimp only
        clear qf
        go_wp2
        exact ⟨⟨k + 1, by omega, by simp, HK.out.1, HK.out.2.trans (hb3.mono HK.out.2.size)⟩, by simp [intOf]; omega⟩
       | false =>
        rw [hom] at qf
        have hw := wrong_bad (by omega) (by omega) hmem hom
        have HK := hide' (And.intro hw hB2)
        clear hw hom hoe hok hB2 hR h hm hmem hb3 hwb hsa hr hD hT hDk hTk hbig hdv hB
        go_wp2_with fail
        refine qf.mono ?_
        rintro r w3 ⟨rfl, hb3⟩
        dsimp only
        clear qf
        go_wp2
        go_ret2
        exact ⟨HK.out.2.trans (hb3.mono HK.out.2.size), .inr ⟨by rw [HK.out.1]; decide, by rw [HK.out.1]; rfl⟩⟩
      ·obtain rfl : k = ms.length := by omega
       have k2 : ¬ (ms.length : Int) < ms.length := by omega
       rw [List.take_length] at hok
       have hall : ms.all okM = true := List.all_eq_true.2 hok
       have hw0 := wrong_ok (by omega) hLe hall
       clear hok hkl2 hk hD hT hDk hTk hB
       have hcv := Lib.run_convert_bytes_const (P := Tryz.prog) wr 57 5 #[.int .u8 33, .int .u8 60, .int .u8 97, .int .u8 114, .int .u8 99, .int .u8 104, .int .u8 62, .int .u8 10] 8 8 Tryz.underlying57 Tryz.underlying5
       have hb3 : Below wr.heap.size wr (wr.alloc (.cells #[.int .u8 33, .int .u8 60, .int .u8 97, .int .u8 114, .int .u8 99, .int .u8 104, .int .u8 62, .int .u8 10] 5 (8, 9))) := (Below.refl _ _).alloc (Nat.le_refl _) _
       have hB3 := hB2.trans (hb3.mono hB2.size)
       have hd3 : Bd w.heap.size (wr.alloc (.cells #[.int .u8 33, .int .u8 60, .int .u8 97, .int .u8 114, .int .u8 99, .int .u8 104, .int .u8 62, .int .u8 10] 5 (8, 9))) (.slice (some ⟨wr.heap.size, 0, none⟩) 8 8) magicB := .inr ⟨_, rfl, magic_rds wr (8, 9)⟩
       have hbd : Bd w.heap.size (wr.alloc (.cells #[.int .u8 33, .int .u8 60, .int .u8 97, .int .u8 114, .int .u8 99, .int .u8 104, .int .u8 62, .int .u8 10] 5 (8, 9))) (.slice (some ⟨wr.heap.size, 0, none⟩) 8 8) (magicB ++ tableB ms) := by rw [HT.out]; exact hd3
       have hBz := hB3
       clear hd3 hB3 hb3 hB2
       go_wp2_with fail
       go_loopw [9, 10, 11, 12] (fun b pl i _ wy => ∃ (k P : Nat), k ≤ ms.length ∧ i = .int .i64 k ∧ pl = .int .i64 P ∧ P = sumM wtT (ms.take k) ∧ Bd w.heap.size wy b (magicB ++ tableB ms ++ bodyB 0 (ms.take k)) ∧ Below w.heap.size w wy) (fun _ _ i _ _ => ms.length - (intOf i).toNat)
       case atStart => exact ⟨0, 0, by omega, rfl, rfl, rfl, by rw [List.take_zero]; unfold bodyB; rw [List.append_nil]; exact hbd, hBz⟩
       case round =>
        obtain ⟨k, P, hk, rfl, rfl, hP, hbk, hBk⟩ := hrel
        obtain ⟨ba, bn, bc, hbv⟩ := hbk.form
        subst hbv
        by_cases hkl3 : k < ms.length
        ·have k2 : (k : Int) < ms.length := by omega
         obtain ⟨m, hm⟩ : ∃ m, ms[k]? = some m := ⟨_, List.getElem?_eq_getElem hkl3⟩
         have hmem := List.mem_of_getElem? hm
         obtain ⟨g, o, hse, h⟩ := hsa (fun e => by rw [e] at hkl3; simp at hkl3)
         subst hse
         have hgN := h.lt
         have hR := h.below hBk
         have d0 := hR.c0 k m hm
         have d1 := hR.c1 k m hm
         have d2 := hR.c2 k m hm
         have hrd := (hr m hmem).below hBk
         obtain ⟨da, dc, hdv⟩ := hrd.len
         rw [hdv] at d2 hrd
         obtain ⟨o1, o2, o3⟩ := ok_parts (List.all_eq_true.1 hall m hmem)
         have hwl := wtD_le hLe
         have hdl := hwl.2.2 m hmem
         have hs2 := sumM_take wtT hm
         have hT1 := sumM_take_le wtT ms (k + 1)
         have hP6 : P ≤ 65536 := by have := sumM_take_le wtT ms k; omega
         have hbt := bodyB_take hm
         have hpl := pre_len k hLe hall
         have qd : ∀ w, Calls Tryz.prog 119 #[.int .i64 m.date] w fun e w' => e = .returned (.string (mk (dec m.date))) ∧ w' = w := fun w => rdec_any m.date o2 (by omega) w
         have hnl := name_length (b := m.name) hP6
         have hdd : (dec m.date).length ≤ 12 := dec_len 11 m.date o2 (by show m.date < 1000000000000; omega)
         have hds : (dec (m.data.length : Nat)).length ≤ 5 := dec_small _ hdl
         have qhh : ∀ w, Calls Tryz.prog 118 #[.string (mk (nameB P m.name)), .string (mk (dec m.date)), .string ⟨#[48]⟩, .string ⟨#[49, 48, 48, 54, 52, 52]⟩, .int .i64 (m.data.length : Nat)] w fun e w' => e = .returned (.string (mk (headB (nameB P m.name) (dec m.date) [48] [48] [49, 48, 48, 54, 52, 52] (dec (m.data.length : Nat))))) ∧ w' = w := fun w => rhead_any (nameB P m.name) (dec m.date) [48] [49, 48, 48, 54, 52, 52] m.data.length (by omega) (by omega) (by decide) (by decide) (by omega) (by omega) w
         have hHHz : (mk (headB (nameB P m.name) (dec m.date) [48] [48] [49, 48, 48, 54, 52, 52] (dec (m.data.length : Nat)))).size = 60 := by rw [mk_size]; exact head_length hnl hdd (by decide) (by decide) (by decide) (by omega)
         have hzN : (mk m.name).size = m.name.length := mk_size _
         by_cases h15 : 15 < m.name.length
         ·have hlng : lng m.name = true := decide_eq_true h15
          have k15 : (15 : Int) < m.name.length := by omega
          have qP : ∀ w, Calls Tryz.prog 119 #[.int .i64 (P : Nat)] w fun e w' => e = .returned (.string (mk (dec (P : Nat)))) ∧ w' = w := fun w => rdec_any P (by omega) (by omega) w
          have hcat : (⟨#[47]⟩ : ByteArray) ++ mk (dec (P : Nat)) = mk (nameB P m.name) := by rw [cat_one']; unfold nameB; rw [if_pos hlng]
          have hwt : wtT m = m.name.length + 2 := by unfold wtT; rw [if_pos hlng]
          have hP' : P + m.name.length + 2 = sumM wtT (ms.take (k + 1)) := by rw [hs2, hwt]; omega
          have hPz : (dec (P : Nat)).length ≤ 5 := dec_small P hP6
          have hPz' : (mk (dec (P : Nat))).size = (dec (P : Nat)).length := mk_size _
          have hC : RmC g (o + k * 3) m.date (.slice da m.data.length dc) wr.drew := ⟨d1, d2⟩
          have hbd' : Bd w.heap.size wr.drew (.slice ba bn bc) (magicB ++ tableB ms ++ bodyB 0 (ms.take k)) := hbk.below ((Below.refl _ _).drew)
          have hN' : w.heap.size ≤ wr.drew.heap.size := hBk.size
          have HX := hide' (And.intro hP (And.intro hbk (And.intro hBk (And.intro hm (And.intro hmem (And.intro hr (And.intro hs2 (And.intro hT1 (And.intro hbt (And.intro hdv (And.intro hP' (And.intro hrd (And.intro hall hw0)))))))))))))
          clear hP hbk hBk hm hmem hr hs2 hT1 hbt hdv hP' hrd hall hw0 hR h hwl hlng hsa hBz hbig hwt
          go_wp2_with fail
          refine (qP _).mono ?_
          rintro r w9' ⟨rfl, rfl⟩
          dsimp only
          clear qP
          go_upto_region 86 with fail
          try rw [hcat]
          refine wp_region_class (C := RmC g (o + k * 3) m.date (.slice da m.data.length dc)) (by kernel_rfl) ?_
          (refine wpAnyC_take (i := 0) (v := ?_) hC rfl (by kernel_rfl) (by kernel_rfl) (by kernel_rfl) (fun _ _ _ h => h) (Or.inl ⟨by kernel_rfl, ?_⟩) ?_; rotate_left; (intro w hc; have f1 := hc.c1; have f2 := hc.c2; clear hc; go_simp; try with_reducible rfl))
          (refine wpAnyC_take (i := 1) (v := ?_) hC rfl (by kernel_rfl) (by kernel_rfl) (by kernel_rfl) (fun _ _ _ h => h) (Or.inl ⟨by kernel_rfl, ?_⟩) ?_; rotate_left; (intro w hc; have f1 := hc.c1; have f2 := hc.c2; clear hc; go_simp; try with_reducible rfl))
          (refine wpAnyC_take (i := 2) (v := ?_) hC rfl (by kernel_rfl) (by kernel_rfl) (by kernel_rfl) (fun _ _ _ h => h) (Or.inl ⟨by kernel_rfl, ?_⟩) ?_; rotate_left; (intro w hc; have f1 := hc.c1; have f2 := hc.c2; clear hc; go_simp; try with_reducible rfl))
          (refine wpAnyC_take (i := 3) (v := ?_) hC rfl (by kernel_rfl) (by kernel_rfl) (by kernel_rfl) (fun _ _ _ h => h) (Or.inl ⟨by kernel_rfl, ?_⟩) ?_; rotate_left; (intro w hc; have f1 := hc.c1; have f2 := hc.c2; clear hc; go_simp; try with_reducible rfl))
          (refine wpAnyC_take (i := 4) (v := ?_) hC rfl (by kernel_rfl) (by kernel_rfl) (by kernel_rfl) (fun _ _ _ h => h) (Or.inl ⟨by kernel_rfl, ?_⟩) ?_; rotate_left; (intro w hc; have f1 := hc.c1; have f2 := hc.c2; clear hc; go_simp; try with_reducible rfl))
          (refine wpAnyC_take (i := 5) (v := ?_) hC rfl (by kernel_rfl) (by kernel_rfl) (by kernel_rfl) (fun _ _ _ h => h) (Or.inl ⟨by kernel_rfl, ?_⟩) ?_; rotate_left; (intro w hc; have f1 := hc.c1; have f2 := hc.c2; clear hc; go_simp; try with_reducible rfl))
          (refine wpAnyC_take (i := 6) (v := ?_) hC rfl (by kernel_rfl) (by kernel_rfl) (by kernel_rfl) (fun _ _ _ h => h) (Or.inl ⟨by kernel_rfl, ?_⟩) ?_; rotate_left; (intro w hc; have f1 := hc.c1; have f2 := hc.c2; clear hc; go_simp; try with_reducible rfl))
          (refine wpAnyC_take (i := 8) (v := ?_) hC rfl (by kernel_rfl) (by kernel_rfl) (by kernel_rfl) (fun _ _ _ h => h) (Or.inl ⟨by kernel_rfl, ?_⟩) ?_; rotate_left; (intro w hc; have f1 := hc.c1; have f2 := hc.c2; clear hc; go_simp; try with_reducible rfl))
          (refine wpAnyC_take (i := 9) (v := ?_) hC rfl (by kernel_rfl) (by kernel_rfl) (by kernel_rfl) (fun _ _ _ h => h) (Or.inl ⟨by kernel_rfl, ?_⟩) ?_; rotate_left; (intro w hc; have f1 := hc.c1; have f2 := hc.c2; clear hc; go_simp; try with_reducible rfl))
          (refine wpAnyC_take (i := 10) (v := ?_) hC rfl (by kernel_rfl) (by kernel_rfl) (by kernel_rfl) (fun _ _ _ h => h) (Or.inl ⟨by kernel_rfl, ?_⟩) ?_; rotate_left; (intro w hc; have f1 := hc.c1; have f2 := hc.c2; clear hc; go_simp; try with_reducible rfl))
          (refine wpAnyC_take (i := 11) (v := ?_) hC rfl (by kernel_rfl) (by kernel_rfl) (by kernel_rfl) (fun _ _ _ h => h) (Or.inl ⟨by kernel_rfl, ?_⟩) ?_; rotate_left; (intro w hc; have f1 := hc.c1; have f2 := hc.c2; clear hc; go_simp; try with_reducible rfl))
          (refine wpAnyC_take (i := 12) (v := ?_) hC rfl (by kernel_rfl) (by kernel_rfl) (by kernel_rfl) (fun _ _ _ h => h) (Or.inl ⟨by kernel_rfl, ?_⟩) ?_; rotate_left; (intro w hc; have f1 := hc.c1; have f2 := hc.c2; clear hc; go_simp; try with_reducible rfl))
          (refine wpAnyC_take (i := 13) (v := ?_) hC rfl (by kernel_rfl) (by kernel_rfl) (by kernel_rfl) (fun _ _ _ h => h) (Or.inl ⟨by kernel_rfl, ?_⟩) ?_; rotate_left; (intro w hc; have f1 := hc.c1; have f2 := hc.c2; clear hc; go_simp; try with_reducible rfl))
          refine wpAnyC_one (i := 7) (by kernel_rfl) (wpOp_wanted rfl (by rfl) ?_)
          go_simp
          refine (qd _).mono ?_
          rintro r w9 ⟨rfl, rfl⟩
          dsimp only
          refine ⟨hC, ?_⟩
          refine wpAnyC_one (i := 14) (by kernel_rfl) (wpOp_wanted rfl (by rfl) ?_)
          go_simp
          refine (qhh _).mono ?_
          rintro r w10 ⟨rfl, rfl⟩
          dsimp only
          refine ⟨hC, ?_⟩
          refine wpAnyC_one (i := 15) (by kernel_rfl) (wpOp_wanted rfl (by rfl) ?_)
          refine wp_append_bd _ _ _ rfl rfl rfl hbd' hN' (by rw [hHHz]; decide) (by rw [hHHz]; omega) ?_
          intro v11 w11 hd11 hO11 hb11
          refine ⟨hC.below hb11 hgN, ?_⟩
          obtain ⟨a11, n11, c11, hv11⟩ := hd11.form
          subst hv11
          refine wpAnyC_one (i := 16) (by kernel_rfl) (wpOp_wanted rfl (by rfl) ?_)
          go_simp
          refine ⟨hC.below hb11 hgN, ?_⟩
          refine wpAnyC_done (by kernel_rfl) ?_ _
          obtain ⟨hP, hbk, hBk, hm, hmem, hr, hs2, hT1, hbt, hdv, hP', hrd, hall, hw0⟩ := HX.out
          rw [tl_mk] at hd11
          have hB11 := hBk.trans (((Below.refl w.heap.size _).drew).trans hb11)
          have hrd11 := (hr m hmem).below hB11
          rw [hdv] at hrd11
          have e2 := (hC.below hb11 hgN).c2
          have hl11 : (magicB ++ tableB ms ++ bodyB 0 (ms.take k) ++ headB (nameB P m.name) (dec m.date) [48] [48] [49, 48, 48, 54, 52, 52] (dec (m.data.length : Nat))).length ≤ 70000 := by
           rw [List.length_append, head_length hnl hdd (by decide) (by decide) (by decide) (by omega)]
           omega
          have hmd := tmod2 m.data.length
          have hd8' : True := trivial
          clear HX hbk hBk hs2 hT1 hrd hbd' hN' hC qd qhh hHHz hcat hzN d0 d1 d2 hb11 hnl hdd hds
          have HY := hide' (And.intro hP (And.intro hm (And.intro hmem (And.intro hr (And.intro hbt (And.intro hdv (And.intro hP' (And.intro hall (And.intro hw0 (And.intro hB11 hO11))))))))))
          clear hP hm hmem hr hbt hdv hP' hall hw0 hB11 hO11
          go_wp2_with (at_builtin; refine wpList_append_dat _ rfl _ _ rfl rfl rfl hd11 hrd11 (by omega) ?_)
          intro v12 w12 hd12 _ hg12 ho12
          obtain ⟨hP, hm, hmem, hr, hbt, hdv, hP', hall, hw0, hB11, hO11⟩ := HY.out
          have hB12 := below_own hB11 hO11 hg12 hB11.size
          have hO12 := hO11.step hB11.size ho12
          have e3 : w12.cell? ⟨g, o + k * 3 + 2, none⟩ = some (.slice da m.data.length dc) := (hg12.cell_far ⟨g, o + k * 3 + 2, none⟩ (Nat.lt_of_lt_of_le hgN hB11.size) (fun e => by have := hO11 g e.symm; omega)).trans e2
          obtain ⟨a12, n12, c12, hv12⟩ := hd12.form
          subst hv12
          clear HY hg12 ho12 hB11 hO11 hd11 e2
          by_cases hodd : m.data.length % 2 = 1
          ·have hov : ((m.data.length : Int) % 2 == 1) = true := beq_iff_eq.2 (by omega)
           have hDB : dataB m.data = m.data ++ [10] := by unfold dataB; rw [if_pos hodd]
           have hb13 : Below w12.heap.size w12 (w12.alloc (.cells #[.int .u8 10] 5)) := (Below.refl _ _).alloc (Nat.le_refl _) _
           have hd13 := hd12.kept fun g hg => hb13.block g (hd12.lt g hg)
           have hr13 := byte_rds w12 10
           have hB13 := hB12.trans (hb13.mono hB12.size)
           have HY := hide' (And.intro hP (And.intro hm (And.intro hmem (And.intro hr (And.intro hbt (And.intro hdv (And.intro hP' (And.intro hall (And.intro hw0 (And.intro hB13 (And.intro hO12 hDB)))))))))))
           clear hP hm hmem hr hbt hdv hP' hall hw0 hB12 hO12 hB13 hDB hd12 hb13
           go_wp2_with (at_builtin; refine wpList_append_dat _ rfl _ _ rfl rfl rfl hd13 hr13 (by simp only [List.length_append, List.length_cons, List.length_nil] at hl11 ⊢; omega) ?_)
           intro v14 w14 hd14 _ hg14 ho14
           obtain ⟨hP, hm, hmem, hr, hbt, hdv, hP', hall, hw0, hB13, hO12, hDB⟩ := HY.out
           have hB14 := below_own hB13 hO12 hg14 hB13.size
           have hO14 := hO12.step hB13.size (by first | exact ho14 | (rw [size_alloc']; exact ho14))
           obtain ⟨a14, n14, c14, hv14⟩ := hd14.form
           subst hv14
           clear HY hg14 ho14 hB13 hO12 hd13 hr13 e3 hmd hov hodd hl11
           have hfin : Bd w.heap.size w14 (.slice a14 n14 c14) (magicB ++ tableB ms ++ bodyB 0 (ms.take (k + 1))) := by
            rw [hbt, ← hP]
            refine .inl ⟨?_, hO14⟩
            have hx := hd14
            unfold memB
            rw [hDB]
            simpa only [List.append_assoc] using hx
           have HX := hide' (And.intro hfin (And.intro hB14 hP'))
           clear hfin hd14 hO14 hB14 hP' hbt hP hr hall hw0 hdv hm hmem hpl hLe hbd hd8'
           go_wp2
           exact ⟨⟨k + 1, P + m.name.length + 2, by omega, by simp, by simp, HX.out.2.2, HX.out.1, HX.out.2.1⟩, by simp [intOf]; omega⟩
          ·have hov : ((m.data.length : Int) % 2 == 1) = false := beq_eq_false_iff_ne.2 (by omega)
           have hDB : dataB m.data = m.data := by unfold dataB; rw [if_neg hodd, List.append_nil]
           have hfin : Bd w.heap.size w12 (.slice a12 n12 c12) (magicB ++ tableB ms ++ bodyB 0 (ms.take (k + 1))) := by
            rw [hbt, ← hP]
            refine .inl ⟨?_, hO12⟩
            have hx := hd12
            unfold memB
            rw [hDB]
            simpa only [List.append_assoc] using hx
           have HX := hide' (And.intro hfin (And.intro hB12 hP'))
           clear hl11 hfin hd12 hO12 hB12 hP' hbt hP hr hall hw0 hdv hm hmem hpl hLe hbd hd8'
           go_wp2
           exact ⟨⟨k + 1, P + m.name.length + 2, by omega, by simp, by simp, HX.out.2.2, HX.out.1, HX.out.2.1⟩, by simp [intOf]; omega⟩
         ·have hlng : ¬ lng m.name = true := fun e => h15 (of_decide_eq_true e)
          have k15 : ¬ (15 : Int) < m.name.length := by omega
          have hcat : mk m.name ++ (⟨#[47]⟩ : ByteArray) = mk (nameB P m.name) := by rw [cat_one]; unfold nameB; rw [if_neg hlng]
          have hwt : wtT m = 0 := by unfold wtT; rw [if_neg hlng]
          have hP' : P = sumM wtT (ms.take (k + 1)) := by rw [hs2, hwt]; omega
          have hC : RmC g (o + k * 3) m.date (.slice da m.data.length dc) wr.drew := ⟨d1, d2⟩
          have hbd' : Bd w.heap.size wr.drew (.slice ba bn bc) (magicB ++ tableB ms ++ bodyB 0 (ms.take k)) := hbk.below ((Below.refl _ _).drew)
          have hN' : w.heap.size ≤ wr.drew.heap.size := hBk.size
          have HX := hide' (And.intro hP (And.intro hbk (And.intro hBk (And.intro hm (And.intro hmem (And.intro hr (And.intro hs2 (And.intro hT1 (And.intro hbt (And.intro hdv (And.intro hP' (And.intro hrd (And.intro hall hw0)))))))))))))
          clear hP hbk hBk hm hmem hr hs2 hT1 hbt hdv hP' hrd hall hw0 hR h hwl hlng hsa hBz hbig hwt
          go_upto_region 86 with fail
          try rw [hcat]
          refine wp_region_class (C := RmC g (o + k * 3) m.date (.slice da m.data.length dc)) (by kernel_rfl) ?_
          (refine wpAnyC_take (i := 0) (v := ?_) hC rfl (by kernel_rfl) (by kernel_rfl) (by kernel_rfl) (fun _ _ _ h => h) (Or.inl ⟨by kernel_rfl, ?_⟩) ?_; rotate_left; (intro w hc; have f1 := hc.c1; have f2 := hc.c2; clear hc; go_simp; try with_reducible rfl))
          (refine wpAnyC_take (i := 1) (v := ?_) hC rfl (by kernel_rfl) (by kernel_rfl) (by kernel_rfl) (fun _ _ _ h => h) (Or.inl ⟨by kernel_rfl, ?_⟩) ?_; rotate_left; (intro w hc; have f1 := hc.c1; have f2 := hc.c2; clear hc; go_simp; try with_reducible rfl))
          (refine wpAnyC_take (i := 2) (v := ?_) hC rfl (by kernel_rfl) (by kernel_rfl) (by kernel_rfl) (fun _ _ _ h => h) (Or.inl ⟨by kernel_rfl, ?_⟩) ?_; rotate_left; (intro w hc; have f1 := hc.c1; have f2 := hc.c2; clear hc; go_simp; try with_reducible rfl))
          (refine wpAnyC_take (i := 3) (v := ?_) hC rfl (by kernel_rfl) (by kernel_rfl) (by kernel_rfl) (fun _ _ _ h => h) (Or.inl ⟨by kernel_rfl, ?_⟩) ?_; rotate_left; (intro w hc; have f1 := hc.c1; have f2 := hc.c2; clear hc; go_simp; try with_reducible rfl))
          (refine wpAnyC_take (i := 4) (v := ?_) hC rfl (by kernel_rfl) (by kernel_rfl) (by kernel_rfl) (fun _ _ _ h => h) (Or.inl ⟨by kernel_rfl, ?_⟩) ?_; rotate_left; (intro w hc; have f1 := hc.c1; have f2 := hc.c2; clear hc; go_simp; try with_reducible rfl))
          (refine wpAnyC_take (i := 5) (v := ?_) hC rfl (by kernel_rfl) (by kernel_rfl) (by kernel_rfl) (fun _ _ _ h => h) (Or.inl ⟨by kernel_rfl, ?_⟩) ?_; rotate_left; (intro w hc; have f1 := hc.c1; have f2 := hc.c2; clear hc; go_simp; try with_reducible rfl))
          (refine wpAnyC_take (i := 6) (v := ?_) hC rfl (by kernel_rfl) (by kernel_rfl) (by kernel_rfl) (fun _ _ _ h => h) (Or.inl ⟨by kernel_rfl, ?_⟩) ?_; rotate_left; (intro w hc; have f1 := hc.c1; have f2 := hc.c2; clear hc; go_simp; try with_reducible rfl))
          (refine wpAnyC_take (i := 8) (v := ?_) hC rfl (by kernel_rfl) (by kernel_rfl) (by kernel_rfl) (fun _ _ _ h => h) (Or.inl ⟨by kernel_rfl, ?_⟩) ?_; rotate_left; (intro w hc; have f1 := hc.c1; have f2 := hc.c2; clear hc; go_simp; try with_reducible rfl))
          (refine wpAnyC_take (i := 9) (v := ?_) hC rfl (by kernel_rfl) (by kernel_rfl) (by kernel_rfl) (fun _ _ _ h => h) (Or.inl ⟨by kernel_rfl, ?_⟩) ?_; rotate_left; (intro w hc; have f1 := hc.c1; have f2 := hc.c2; clear hc; go_simp; try with_reducible rfl))
          (refine wpAnyC_take (i := 10) (v := ?_) hC rfl (by kernel_rfl) (by kernel_rfl) (by kernel_rfl) (fun _ _ _ h => h) (Or.inl ⟨by kernel_rfl, ?_⟩) ?_; rotate_left; (intro w hc; have f1 := hc.c1; have f2 := hc.c2; clear hc; go_simp; try with_reducible rfl))
          (refine wpAnyC_take (i := 11) (v := ?_) hC rfl (by kernel_rfl) (by kernel_rfl) (by kernel_rfl) (fun _ _ _ h => h) (Or.inl ⟨by kernel_rfl, ?_⟩) ?_; rotate_left; (intro w hc; have f1 := hc.c1; have f2 := hc.c2; clear hc; go_simp; try with_reducible rfl))
          (refine wpAnyC_take (i := 12) (v := ?_) hC rfl (by kernel_rfl) (by kernel_rfl) (by kernel_rfl) (fun _ _ _ h => h) (Or.inl ⟨by kernel_rfl, ?_⟩) ?_; rotate_left; (intro w hc; have f1 := hc.c1; have f2 := hc.c2; clear hc; go_simp; try with_reducible rfl))
          (refine wpAnyC_take (i := 13) (v := ?_) hC rfl (by kernel_rfl) (by kernel_rfl) (by kernel_rfl) (fun _ _ _ h => h) (Or.inl ⟨by kernel_rfl, ?_⟩) ?_; rotate_left; (intro w hc; have f1 := hc.c1; have f2 := hc.c2; clear hc; go_simp; try with_reducible rfl))
          refine wpAnyC_one (i := 7) (by kernel_rfl) (wpOp_wanted rfl (by rfl) ?_)
          go_simp
          refine (qd _).mono ?_
          rintro r w9 ⟨rfl, rfl⟩
          dsimp only
          refine ⟨hC, ?_⟩
          refine wpAnyC_one (i := 14) (by kernel_rfl) (wpOp_wanted rfl (by rfl) ?_)
          go_simp
          refine (qhh _).mono ?_
          rintro r w10 ⟨rfl, rfl⟩
          dsimp only
          refine ⟨hC, ?_⟩
          refine wpAnyC_one (i := 15) (by kernel_rfl) (wpOp_wanted rfl (by rfl) ?_)
          refine wp_append_bd _ _ _ rfl rfl rfl hbd' hN' (by rw [hHHz]; decide) (by rw [hHHz]; omega) ?_
          intro v11 w11 hd11 hO11 hb11
          refine ⟨hC.below hb11 hgN, ?_⟩
          obtain ⟨a11, n11, c11, hv11⟩ := hd11.form
          subst hv11
          refine wpAnyC_one (i := 16) (by kernel_rfl) (wpOp_wanted rfl (by rfl) ?_)
          go_simp
          refine ⟨hC.below hb11 hgN, ?_⟩
          refine wpAnyC_done (by kernel_rfl) ?_ _
          obtain ⟨hP, hbk, hBk, hm, hmem, hr, hs2, hT1, hbt, hdv, hP', hrd, hall, hw0⟩ := HX.out
          rw [tl_mk] at hd11
          have hB11 := hBk.trans (((Below.refl w.heap.size _).drew).trans hb11)
          have hrd11 := (hr m hmem).below hB11
          rw [hdv] at hrd11
          have e2 := (hC.below hb11 hgN).c2
          have hl11 : (magicB ++ tableB ms ++ bodyB 0 (ms.take k) ++ headB (nameB P m.name) (dec m.date) [48] [48] [49, 48, 48, 54, 52, 52] (dec (m.data.length : Nat))).length ≤ 70000 := by
           rw [List.length_append, head_length hnl hdd (by decide) (by decide) (by decide) (by omega)]
           omega
          have hmd := tmod2 m.data.length
          have hd8' : True := trivial
          clear HX hbk hBk hs2 hT1 hrd hbd' hN' hC qd qhh hHHz hcat hzN d0 d1 d2 hb11 hnl hdd hds
          have HY := hide' (And.intro hP (And.intro hm (And.intro hmem (And.intro hr (And.intro hbt (And.intro hdv (And.intro hP' (And.intro hall (And.intro hw0 (And.intro hB11 hO11))))))))))
          clear hP hm hmem hr hbt hdv hP' hall hw0 hB11 hO11
          go_wp2_with (at_builtin; refine wpList_append_dat _ rfl _ _ rfl rfl rfl hd11 hrd11 (by omega) ?_)
          intro v12 w12 hd12 _ hg12 ho12
          obtain ⟨hP, hm, hmem, hr, hbt, hdv, hP', hall, hw0, hB11, hO11⟩ := HY.out
          have hB12 := below_own hB11 hO11 hg12 hB11.size
          have hO12 := hO11.step hB11.size ho12
          have e3 : w12.cell? ⟨g, o + k * 3 + 2, none⟩ = some (.slice da m.data.length dc) := (hg12.cell_far ⟨g, o + k * 3 + 2, none⟩ (Nat.lt_of_lt_of_le hgN hB11.size) (fun e => by have := hO11 g e.symm; omega)).trans e2
          obtain ⟨a12, n12, c12, hv12⟩ := hd12.form
          subst hv12
          clear HY hg12 ho12 hB11 hO11 hd11 e2
          by_cases hodd : m.data.length % 2 = 1
          ·have hov : ((m.data.length : Int) % 2 == 1) = true := beq_iff_eq.2 (by omega)
           have hDB : dataB m.data = m.data ++ [10] := by unfold dataB; rw [if_pos hodd]
           have hb13 : Below w12.heap.size w12 (w12.alloc (.cells #[.int .u8 10] 5)) := (Below.refl _ _).alloc (Nat.le_refl _) _
           have hd13 := hd12.kept fun g hg => hb13.block g (hd12.lt g hg)
           have hr13 := byte_rds w12 10
           have hB13 := hB12.trans (hb13.mono hB12.size)
           have HY := hide' (And.intro hP (And.intro hm (And.intro hmem (And.intro hr (And.intro hbt (And.intro hdv (And.intro hP' (And.intro hall (And.intro hw0 (And.intro hB13 (And.intro hO12 hDB)))))))))))
           clear hP hm hmem hr hbt hdv hP' hall hw0 hB12 hO12 hB13 hDB hd12 hb13
           go_wp2_with (at_builtin; refine wpList_append_dat _ rfl _ _ rfl rfl rfl hd13 hr13 (by simp only [List.length_append, List.length_cons, List.length_nil] at hl11 ⊢; omega) ?_)
           intro v14 w14 hd14 _ hg14 ho14
           obtain ⟨hP, hm, hmem, hr, hbt, hdv, hP', hall, hw0, hB13, hO12, hDB⟩ := HY.out
           have hB14 := below_own hB13 hO12 hg14 hB13.size
           have hO14 := hO12.step hB13.size (by first | exact ho14 | (rw [size_alloc']; exact ho14))
           obtain ⟨a14, n14, c14, hv14⟩ := hd14.form
           subst hv14
           clear HY hg14 ho14 hB13 hO12 hd13 hr13 e3 hmd hov hodd hl11
           have hfin : Bd w.heap.size w14 (.slice a14 n14 c14) (magicB ++ tableB ms ++ bodyB 0 (ms.take (k + 1))) := by
            rw [hbt, ← hP]
            refine .inl ⟨?_, hO14⟩
            have hx := hd14
            unfold memB
            rw [hDB]
            simpa only [List.append_assoc] using hx
           have HX := hide' (And.intro hfin (And.intro hB14 hP'))
           clear hfin hd14 hO14 hB14 hP' hbt hP hr hall hw0 hdv hm hmem hpl hLe hbd hd8'
           go_wp2
           exact ⟨⟨k + 1, P, by omega, by simp, by simp, HX.out.2.2, HX.out.1, HX.out.2.1⟩, by simp [intOf]; omega⟩
          ·have hov : ((m.data.length : Int) % 2 == 1) = false := beq_eq_false_iff_ne.2 (by omega)
           have hDB : dataB m.data = m.data := by unfold dataB; rw [if_neg hodd, List.append_nil]
           have hfin : Bd w.heap.size w12 (.slice a12 n12 c12) (magicB ++ tableB ms ++ bodyB 0 (ms.take (k + 1))) := by
            rw [hbt, ← hP]
            refine .inl ⟨?_, hO12⟩
            have hx := hd12
            unfold memB
            rw [hDB]
            simpa only [List.append_assoc] using hx
           have HX := hide' (And.intro hfin (And.intro hB12 hP'))
           clear hl11 hfin hd12 hO12 hB12 hP' hbt hP hr hall hw0 hdv hm hmem hpl hLe hbd hd8'
           go_wp2
           exact ⟨⟨k + 1, P, by omega, by simp, by simp, HX.out.2.2, HX.out.1, HX.out.2.1⟩, by simp [intOf]; omega⟩
        ·obtain rfl : k = ms.length := by omega
         have k2 : ¬ (ms.length : Int) < ms.length := by omega
         rw [List.take_length] at hbk
         have hA : Rds wr (.slice ba bn bc) (archB ms) := hbk.rds
         have HX := hide' (And.intro hA (And.intro hBk hw0))
         clear hA hBk hw0 hbk hP hbd hr hall hsa hBz hbig
         go_wp2
         go_ret2
         exact ⟨HX.out.2.1, .inl ⟨HX.out.2.2, _, rfl, HX.out.1⟩⟩
theorem arch_big (v : Value) (ms : List Mv) (w : World) (h : Mems w v ms) (hbig : sumM wtB ms ≤ 1000000000) (hsm : ∀ m ∈ ms, wtB m ≤ 200000) : Calls Tryz.prog 95 #[v] w fun r w' => AAt ms w r w' := by
 rcases h with ⟨⟨a, c, rfl⟩, rfl⟩ | ⟨g, o, cap, rfl, h0, h1, h2⟩
 ·exact arch_any' a c [] w (fun e => absurd rfl e) (fun n hn => (by cases hn)) hbig hsm
 ·exact arch_any' _ cap ms w (fun _ => ⟨g, o, rfl, h1⟩) h2 hbig hsm
end Go.Proofs.YtabmnkddmdffkaaGreatDoor.Arc
