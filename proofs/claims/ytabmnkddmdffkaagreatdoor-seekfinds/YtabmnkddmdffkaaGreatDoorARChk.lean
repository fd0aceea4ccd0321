import Derived.Test.YtabmnkddmdffkaaGreatDoorARHeadG
import Derived.Test.YtabmnkddmdffkaaGreatDoorARErr
namespace Go.Proofs.YtabmnkddmdffkaaGreatDoor.Arc
open Go.RowKit Go.Maps Go.Shelf
theorem isE_new (W : World) (p : Int) (k : Nat) (hk : k ≠ 0) : IsE (W.alloc (.cells #[.int .i64 p, .iface 31 (.int .i64 (k : Nat))] 217)) (.iface 215 (.pointer (some ⟨W.heap.size, 0, none⟩))) k := .inr ⟨hk, _, _, rfl, alloc_new _ _⟩
theorem wrong_ok {ms : List Mv} (h1 : ms.length ≤ 5000) (h2 : lenA ms ≤ 65536) (h3 : ms.all okM = true) : wrongR ms = 0 := by unfold wrongR; rw [if_neg (by omega), if_pos h3]
theorem wrong_bad {ms : List Mv} (h1 : ms.length ≤ 5000) (h2 : lenA ms ≤ 65536) {m : Mv} (hm : m ∈ ms) (h3 : okM m = false) : wrongR ms = 1 := by
 unfold wrongR
 rw [if_neg (by omega), if_neg (fun h => by rw [List.all_eq_true] at h; rw [h m hm] at h3; cases h3)]
theorem wrong_long {ms : List Mv} (h : 5000 < ms.length ∨ 65536 < lenA ms) : wrongR ms = 2 := by unfold wrongR; rw [if_pos h]
def Fine (ms : List Mv) : Prop := ms.length ≤ 1099511627776 ∧ lenA ms ≤ 1099511627776 ∧ ∀ m ∈ ms, m.name.length ≤ 1000000
set_option maxRecDepth 100000 in
set_option maxHeartbeats 4000000 in
theorem check_row (g o cap : Nat) (ms : List Mv) (w : World) (hc : ms.length ≤ cap) (h : MRow w g o ms) (hr : ∀ m ∈ ms, Rds w m.dv m.data) (hf : Fine ms) :
  Calls Tryz.prog 170 #[.slice (some ⟨g, o, none⟩) ms.length cap] w fun r w' => (∃ v, r = .returned v ∧ IsE w' v (wrongR ms)) ∧ Below w.heap.size w w' := by
 obtain ⟨f1, f2, f3⟩ := hf
 have ql := length_any _ ms w (.inr ⟨g, o, cap, rfl, hc, h, hr⟩) f1 f2
 by_cases h1 : ms.length ≤ 5000
 ·have k1 : ¬ (5000 : Int) < ms.length := by omega
  by_cases h2 : lenA ms ≤ 65536
  ·have k2 : ¬ (65536 : Int) < lenA ms := by omega
   have HW := fun (m : Mv) (hm : m ∈ ms) (hb : okM m = false) => wrong_bad h1 h2 hm hb
   have HO := fun h3 => wrong_ok h1 h2 h3
   have HWH := hide' HW
   have HOH := hide' HO
   clear HW HO
   go_enter Tryz.func170, Tryz.ntmps170
   go_wp2_with fail
   refine ql.mono ?_
   rintro r w1 ⟨rfl, hb1⟩
   clear ql
   go_wp2
   go_loopw [3, 4, 21] (fun _ _ i wr => ∃ k : Nat, k ≤ ms.length ∧ i = .int .i64 k ∧ (ms.take k).all okM = true ∧ Below w.heap.size w wr) (fun _ _ i _ => ms.length - (intOf i).toNat)
   case atStart => exact ⟨0, by omega, rfl, rfl, hb1⟩
   case round =>
    obtain ⟨k, hk, rfl, hall, hB⟩ := hrel
    by_cases hkl : k < ms.length
    ·have k3 : (k : Int) < ms.length := by omega
     obtain ⟨m, hm⟩ : ∃ m, ms[k]? = some m := ⟨_, List.getElem?_eq_getElem hkl⟩
     have hR := h.below hB
     have d0 := hR.c0 k m hm
     have d1 := hR.c1 k m hm
     have d2 := hR.c2 k m hm
     have hmem := List.mem_of_getElem? hm
     obtain ⟨da, dc, hdv⟩ := (hr m hmem).len
     rw [hdv] at d2
     have qn := fun w => name_any m.name (f3 m hmem) w
     have hb2 : ∀ o, Below w.heap.size w (wr.alloc o) := fun o => hB.alloc hB.size o
     have hbad := HWH.out m hmem
     have HBD := hide' hbad
     have htk : (ms.take (k + 1)).all okM = okM m := by rw [List.take_add_one, hm, List.all_append, hall]; simp
     have HTK := hide' htk
     have hsw := hB.size
     clear hR h hr f3 hm hmem hbad htk hall HWH HOH
     go_wp2_with fail
     refine (qn _).mono ?_
     rintro r w2 ⟨rfl, hb3⟩
     clear qn
     have z2 := (hb3.block wr.heap.size (by simp)).trans (alloc_new wr (.cells #[.string (mk m.name), .int .i64 m.date, .slice da m.data.length dc] 86))
     have e1 : w2.cell? ⟨wr.heap.size, 1, none⟩ = some (.int .i64 m.date) := by rw [Lib.cell_of_heap z2]; rfl
     have hB2 : Below w.heap.size w w2 := (hb2 _).trans (hb3.mono (hb2 _).size)
     clear hb3 hb2
     cases hn : nmb m.name with
     | false =>
      have ho : okM m = false := by unfold okM; rw [hn]; rfl
      have hw := HBD.out ho
      have HQ := hide' hw
      clear hw HBD HTK
      go_wp2
      go_ret
      rw [HQ.out]
      exact ⟨⟨_, rfl, isE_new _ _ 1 (by decide)⟩, hB2.alloc hB2.size _⟩
     | true =>
      by_cases t1 : m.date < 0
      ·have ho : okM m = false := by unfold okM; rw [hn, decide_eq_false (by omega)]; rfl
       have hw := HBD.out ho
       have HQ := hide' hw
       clear hw HBD HTK
       go_wp2
       go_ret
       rw [HQ.out]
       exact ⟨⟨_, rfl, isE_new _ _ 1 (by decide)⟩, hB2.alloc hB2.size _⟩
      ·by_cases t2 : 999999999999 < m.date
       ·have ho : okM m = false := by unfold okM; rw [hn, decide_eq_true (by omega), decide_eq_false (by omega)]; rfl
        have hw := HBD.out ho
        have HQ := hide' hw
        clear hw HBD HTK
        go_wp2
        go_ret
        rw [HQ.out]
        exact ⟨⟨_, rfl, isE_new _ _ 1 (by decide)⟩, hB2.alloc hB2.size _⟩
       ·have ho : okM m = true := by unfold okM; rw [hn, decide_eq_true (by omega), decide_eq_true (by omega)]; rfl
        have hw := HTK.out
        rw [ho] at hw
        have HQ := hide' hw
        clear hw HBD HTK
        go_wp2
        exact ⟨⟨k + 1, by omega, by simp, HQ.out, hB2⟩, by simp [intOf]; omega⟩
    ·obtain rfl : k = ms.length := by omega
     have k3 : ¬ (ms.length : Int) < ms.length := by omega
     rw [List.take_length] at hall
     have hw := HOH.out hall
     have HQ := hide' hw
     clear hw HOH HWH
     go_wp2
     go_ret
     rw [HQ.out]
     exact ⟨⟨_, rfl, .inl ⟨rfl, rfl⟩⟩, hB⟩
  ·have k2 : (65536 : Int) < lenA ms := by omega
   have hw := wrong_long (ms := ms) (.inr (by omega))
   have HQ := hide' hw
   clear hw
   go_enter Tryz.func170, Tryz.ntmps170
   go_wp2_with fail
   refine ql.mono ?_
   rintro r w1 ⟨rfl, hb1⟩
   clear ql
   go_wp2
   go_ret
   rw [HQ.out]
   exact ⟨⟨_, rfl, isE_new _ _ 2 (by decide)⟩, hb1.alloc hb1.size _⟩
 ·have k1 : (5000 : Int) < ms.length := by omega
  have hw := wrong_long (ms := ms) (.inl (by omega))
  have HQ := hide' hw
  clear hw ql
  go_enter Tryz.func170, Tryz.ntmps170
  go_wp2
  go_ret
  rw [HQ.out]
  exact ⟨⟨_, rfl, isE_new _ _ 2 (by decide)⟩, (Below.refl _ _).alloc (Nat.le_refl _) _⟩
set_option maxRecDepth 100000 in
theorem check_nil (a : Option Addr) (c : Nat) (w : World) : Calls Tryz.prog 170 #[.slice a 0 c] w fun r w' => r = .returned .nilIface ∧ w' = w := by
 go_enter Tryz.func170, Tryz.ntmps170
 go_wp2_with (go_at_call 171; refine (length_nil a c _).mono ?_; rintro r w1 ⟨rfl, rfl⟩)
 go_loopw [3, 4, 21] (fun _ _ i wr => i = .int .i64 0 ∧ wr = w1) (fun _ _ _ _ => 0)
 case atStart => exact ⟨rfl, rfl⟩
 case round =>
  obtain ⟨rfl, rfl⟩ := hrel
  go_wp2
  go_ret
  exact ⟨rfl, rfl⟩
theorem check_any (v : Value) (ms : List Mv) (w : World) (h : Mems w v ms) (hf : Fine ms) :
  Calls Tryz.prog 170 #[v] w fun r w' => (∃ v, r = .returned v ∧ IsE w' v (wrongR ms)) ∧ Below w.heap.size w w' := by
 rcases h with ⟨⟨a, c, rfl⟩, rfl⟩ | ⟨g, o, cap, rfl, h0, h1, h2⟩
 ·exact (check_nil a c w).mono fun r w' ⟨hr, hw⟩ => ⟨⟨_, hr, .inl ⟨rfl, rfl⟩⟩, by rw [hw]; exact Below.refl _ _⟩
 ·exact check_row g o cap ms w h0 h1 h2 hf
end Go.Proofs.YtabmnkddmdffkaaGreatDoor.Arc
