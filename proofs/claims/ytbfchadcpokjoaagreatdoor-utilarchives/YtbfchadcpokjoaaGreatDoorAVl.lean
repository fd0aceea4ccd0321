/- The law UtilArchives, walked. -/
import Derived.Test.YtbfchadcpokjoaaGreatDoorAXd
namespace Go.Proofs.YtbfchadcpokjoaaGreatDoor
open Go.RowKit Go.Maps

def esK (L : List Int) (k : Nat) : List Ee := putA xOf [] ((L.take k).map lt)
def wrd (L : List Int) (k : Nat) : List Bs := [97, 114] :: [114, 99] :: lA :: (L.take k).map lt
theorem esK_next {L : List Int} {k : Nat} {x : Int} (h : L[k]? = some x) : esK L (k + 1) = putE (esK L k) (xOf (lt x)) := by
  unfold esK putA
  rw [List.take_add_one, h, Option.toList_some, List.map_append, List.foldl_append]
  rfl
theorem wrd_next {L : List Int} {k : Nat} {x : Int} (h : L[k]? = some x) : wrd L (k + 1) = wrd L k ++ [lt x] := by
  unfold wrd
  rw [List.take_add_one, h, Option.toList_some, List.map_append]
  rfl
theorem esK_ok (L : List Int) (k : Nat) : LOk (esK L k) := puts_ok _ [] (.inl rfl) fun p hp => by
  obtain ⟨x, _, rfl⟩ := List.mem_map.1 hp
  exact lt_ok x
theorem esK_all (L : List Int) : esK L L.length = putA xOf [] (L.map lt) := by unfold esK; rw [List.take_length]
theorem ow_snoc {W : World} {b : Nat} {v : Value} {L : List Bs} {x : Bs} (h : W.ownsRow b 9 1 v (L.length + 1) (strs L ++ strs [x])) : OwT W b v (L ++ [x]) := by
  unfold OwT
  rw [List.length_append, show strs (L ++ [x]) = strs L ++ strs [x] from List.map_append]
  exact h
theorem esK_ne {L : List Int} {k : Nat} (h0 : 0 < k) (hk : k ≤ L.length) : ∃ e es, esK L k = e :: es := by
  obtain ⟨j, rfl⟩ : ∃ j, k = j + 1 := ⟨k - 1, by omega⟩
  have hx : L[j]? = some (L[j]'(by omega)) := List.getElem?_eq_getElem (by omega)
  have h := (putE_ok (esK_ok L j) (lt_ok (L[j]'(by omega)))).2
  rw [← esK_next hx] at h
  cases he : esK L (j + 1) with
  | nil => exact absurd he h
  | cons e es => exact ⟨e, es, rfl⟩
theorem str_app (a b : Bs) : mk a ++ mk b = mk (a ++ b) := by simp [mk, ByteArray.ext_iff]
/-- the archive at a round -/
def Md (one : Bool) (k : Nat) (o : Option (Int × Bs)) (ck : Int) (es : List Ee) : Prop := if one then OEs o es ∧ ck = 3 + k ∧ (k ≠ 0 → ∃ t, o = some (t, arcE es)) else o = none ∧ ck = 3
set_option maxRecDepth 100000 in
set_option maxHeartbeats 8000000 in
theorem uarch_any (B : Nat) (E : Addr) (nv : Value) (L : List Int) (one : Bool) (w : World) (hG : Glo B w E) (hB : B ≤ w.heap.size) (b9 : 9 < B) (hA : AEnv w) (hN : Nis w nv L) (hlen : L.length ≤ 140737488355328) :
    Calls Tryz.prog 5 #[nv, .bool one] w fun r w' => r = .returned (.bool true) ∧ Below w.heap.size w w' := by
  have qa := alive_any B E w hG hB
  obtain ⟨va, vc, hv0⟩ : ∃ a c, nv = .slice a L.length c := by
    rcases hN with ⟨a, c, e, rfl⟩ | ⟨a, c, e, _⟩
    · exact ⟨a, c, e⟩
    · exact ⟨_, c, e⟩
  have HA := hide' qa
  have HG := hide' hG
  have HN := hide' hN
  have HE := hide' hA
  clear qa hG hN hA
  by_cases hsk : 8 < L.length ∨ L.length = 0
  · subst hv0
    clear HG HN HE
    generalize L.length = ln at hsk hlen ⊢
    rcases hsk with hsk | rfl
    · have k1 : (8 : Int) < ln := by omega
      go_enter Tryz.func5, Tryz.ntmps5
      go_wp2_with fail
      refine HA.out.mono ?_
      rintro r w1 ⟨rfl, hw1⟩
      go_wp2
      go_ret
      exact ⟨rfl, hw1⟩
    · go_enter Tryz.func5, Tryz.ntmps5
      go_wp2_with fail
      refine HA.out.mono ?_
      rintro r w1 ⟨rfl, hw1⟩
      go_wp2
      go_ret
      exact ⟨rfl, hw1⟩
  · have k1 : ¬ (8 : Int) < L.length := by omega
    have k2 : ¬ (L.length : Int) = 0 := by omega
    have hl8 : L.length ≤ 8 := by omega
    have hl0 : 0 < L.length := by omega
    obtain ⟨ln, hln⟩ : ∃ ln, L.length = ln := ⟨_, rfl⟩
    rw [hln] at hv0 k1 k2 hl8 hl0
    have k3 : ((ln : Int) == 0) = false := by simpa using k2
    have HLN := hide' hln
    clear hln hsk hlen
    subst hv0
    go_enter Tryz.func5, Tryz.ntmps5
    go_wp2_with fail
    refine HA.out.mono ?_
    rintro r w1 ⟨rfl, hw1⟩
    clear HA
    go_wp2_with fail
    refine (tree_any w1).mono ?_
    rintro r w2 ⟨tv, nt, rfl, hn2, hw2⟩
    have hB2 : Below w.heap.size w w2 := hw1.trans (hw2.mono hw1.size)
    have qn := New_any B E tv (tns nt) 3 60000 w2 hn2 (HG.out.keep (hB2.mono hB)) (Nat.le_trans hB hB2.size) (tns_len nt)
    rw [newR_tns nt] at qn
    have HQN := hide' qn
    have HB2 := hide' hB2
    clear qn hB2 hn2 hw2 hw1
    go_wp2_with fail
    refine HQN.out.mono ?_
    rintro r w3 ⟨hb3, G, rfl, hfs⟩
    have hnil : ∀ w : World, (binOp .eql 36 (.pointer (some ⟨G, 0, none⟩)) (.pointer none)).run Tryz.prog w = .ok (.bool false) w := fun w => by kernel_rfl
    have hB3 : Below w.heap.size w w3 := HB2.out.trans (hb3.mono HB2.out.size)
    have hfs' : IsFs w3 (fun i => w2.heap.size ≤ i ∧ i < w3.heap.size) G (tA none) 3 60000 := hfs.shrink
    obtain ⟨W4, hW4⟩ : ∃ W, W = w3.alloc (.cells #[.string ⟨#[97, 114]⟩, .string ⟨#[114, 99]⟩, .string ⟨#[108, 46, 97]⟩] 9) := ⟨_, rfl⟩
    have hb4 : Below w3.heap.size w3 W4 := by rw [hW4]; exact (Below.refl _ _).alloc (Nat.le_refl _) _
    have hB4 : Below w.heap.size w W4 := hB3.trans (hb4.mono hB3.size)
    have hlw : Lw B E G (fun i => w2.heap.size ≤ i ∧ i < w3.heap.size) none 3 W4 := ⟨hfs'.below hb4, HG.out.keep (hB4.mono hB), HE.out.keep (hB4.mono hB) b9, Nat.le_trans hB hB4.size, b9, fun i hi => Nat.le_trans hB (Nat.le_trans HB2.out.size hi.1), fun i hi => Nat.lt_of_lt_of_le hi.2 hb4.size, by decide⟩
    have hls : LS w B E G (fun i => w2.heap.size ≤ i ∧ i < w3.heap.size) none 3 (.slice (some ⟨w3.heap.size, 0, none⟩) 3 3) (.slice none 0 0) [[97, 114], [114, 99], lA] [] W4 := by
      refine ⟨hlw, fun i hi => Nat.le_trans HB2.out.size hi.1, ⟨rfl, .inr ⟨w3.heap.size, 3, _, rfl, hB3.size, by rw [hW4]; exact heap_alloc_new w3 _, Nat.le_refl _, by decide, rfl, rfl⟩⟩, ⟨rfl, .inl ⟨rfl, rfl⟩⟩, fun g hg => ?_, fun g hg => (by cases hg), hB4⟩
      have e : w3.heap.size = g := Option.some.inj hg
      subst e
      exact ⟨fun hs => Nat.lt_irrefl _ hs.2, fun h => by cases h⟩
    have HLS := hide' hls
    have HW4 := hide' hW4
    clear hls hlw hB4 hb4 hfs' hB3 hfs hb3 HQN hW4
    go_wp2_with (go_at_call 12; refine (lnum_any _ _).mono ?_; rintro r w0 ⟨rfl, rfl⟩)
    rw [← HW4.out]
    clear HW4
    cases one with
    | true =>
      go_loopw [8, 9, 10, 11, 12, 13, 14, 15, 16] (fun a l s i _ _ _ _ _ wr => ∃ (k : Nat) (S : Nat → Prop) (o : Option (Int × Bs)) (ck : Int), k ≤ ln ∧ i = .int .i64 k ∧ l = .string (mk (outN (esK L k))) ∧ LS w B E G S o ck a s (wrd L k) ((esK L k).map (·.1)) wr ∧ Md true k o ck (esK L k)) (fun _ _ _ i _ _ _ _ _ _ => ln - (intOf i).toNat)
      case atStart => exact ⟨0, _, none, 3, Nat.zero_le _, rfl, rfl, HLS.out, ⟨.inl ⟨rfl, rfl⟩, rfl, fun h => absurd rfl h⟩⟩
      case round =>
        obtain ⟨k, S, o, ck, hk, rfl, rfl, hls, hmd⟩ := hrel
        clear HLS
        have hlo := esK_ok L k
        have hol : List.length (outN (esK L k)) ≤ 100 := by rcases hlo with h | h | h | h | h <;> rw [h] <;> decide
        have hwl : (wrd L k).length ≤ 20 := by unfold wrd; simp only [List.length_cons, List.length_map, List.length_take]; omega
        have hsl3 : ((esK L k).map (·.1)).length ≤ 20 := by rcases hlo with h | h | h | h | h <;> rw [h] <;> decide
        obtain ⟨nm, hnm⟩ : ∃ nm, nm = (esK L k).map (·.1) := ⟨_, rfl⟩
        obtain ⟨wk, hwk⟩ : ∃ wk, wk = wrd L k := ⟨_, rfl⟩
        obtain ⟨oo, hoo⟩ : ∃ oo, oo = outN (esK L k) := ⟨_, rfl⟩
        rw [← hnm] at hls hsl3
        rw [← hwk] at hls hwl
        rw [← hoo] at hol ⊢
        have HNM := hide' hnm
        have HWK := hide' hwk
        have HOO := hide' hoo
        clear hnm hwk hoo
        obtain ⟨aa, ac, hae⟩ := hls.oa.len
        obtain ⟨sa, sc, hse⟩ := hls.os.len
        subst hae hse
        by_cases hkl : k < ln
        · have k4 : (k : Int) < ln := by omega
          obtain ⟨x, hx⟩ : ∃ x, L[k]? = some x := ⟨_, List.getElem?_eq_getElem (by rw [HLN.out]; exact hkl)⟩
          obtain ⟨na, hva, d0⟩ : ∃ na, va = some na ∧ wr.cell? (na.add k) = some (.int .i64 x) := by
            rcases HN.out with ⟨_, _, _, e⟩ | ⟨na, c, e, h2, h3⟩
            · rw [e] at hx; simp at hx
            · refine ⟨na, ?_, ?_⟩
              · cases e; rfl
              · have hlt : (na.add k).block < w.heap.size := by rw [add_block]; exact h2
                exact (hls.bl.cell (p := na.add k) hlt).trans (h3 k x hx)
          subst hva
          have hwn := wrd_next hx
          have hen := esK_next hx
          obtain ⟨inf, hi, hz0, hz1, hz2⟩ := info_parts info9
          rcases and_one x with hbx | hbx
          · have hlt : lt x = [97] := by unfold lt; rw [hbx]; rfl
            rw [hlt] at hwn hen
            clear hlt hx
            have hsl : ∀ W : World, (Instr.slice 9 (.string ⟨#[97, 98]⟩) (some (.int .i64 0)) (some (.int .i64 1)) none).run Tryz.prog W = .ok (.string ⟨#[97]⟩) W := fun _ => by kernel_rfl
            have hba : Below wr.heap.size wr (wr.alloc (.cells #[.string ⟨#[97]⟩] 9)) := (Below.refl _ _).alloc (Nat.le_refl _) _
            have hls1 := hls.below hba
            have hown := hls1.oa
            have hwz := hls1.bl.size
            have HLS1 := hide' hls1
            have HWN := hide' hwn
            have HEN := hide' hen
            have HMD := hide' hmd
            clear hls1 hls hba hwn hen hmd
            go_wp2_with (at_builtin; refine wpList_append_lies _ rfl _ _ 24 rfl w.heap.size 9 inf _ 1 16 Tryz.underlying24 hi hz0 hz1 hz2 rfl (by decide) (.slice aa wk.length ac) wk.length (strs wk) rfl hown ⟨wr.heap.size, 0, none⟩ 1 1 (strs [[97]]) rfl rfl (ts_cells wr [97]) (by intro u hu; simp at hu; rw [hu]; rfl) (by decide) (by unfold maxLen; omega) (by omega) hwz _ rfl ?_)
            intro g5 c5 w5 ho5 hgr5 hat5 hlt5
            have hls5 := HLS1.out.pushA hB (x := [97]) hgr5 (show OwT w5 w.heap.size (.slice (some ⟨g5, 0, none⟩) (wk.length + 1) c5) (wk ++ [[97]]) from ow_snoc ho5) rfl (hat5.imp_right fun h => h.trans (by simp))
            have qh := has_any _ _ [97] w5 hls5.os.txs (by omega)
            have HLS5 := hide' hls5
            clear hls5 ho5 hgr5 hat5 hown hwz HLS1
            by_cases hin : [97] ∈ nm
            · rw [decide_eq_true hin] at qh
              have HQH := hide' qh
              clear qh
              go_wp2_with fail
              refine HQH.out.mono ?_
              rintro r w6 ⟨rfl, hb6⟩
              have hls6 := HLS5.out.below hb6
              clear HQH HLS5 hb6
              have hes : esK L (k + 1) = esK L k := by rw [HEN.out]; exact put_in hlo (.inl rfl) (HNM.out ▸ hin)
              have HLS7 := hide' hls6
              have HES := hide' hes
              clear hls6 hes hin
              have hlo2 : LOk (esK L (k + 1)) := esK_ok L (k + 1)
              obtain ⟨hoe, hck, _⟩ := HMD.out
              have hba8 : Below w6.heap.size w6 (w6.alloc (.cells #[.string ⟨#[97, 114]⟩, .string ⟨#[114]⟩, .string ⟨#[108, 46, 97]⟩, .string ⟨#[97]⟩] 9)) := (Below.refl _ _).alloc (Nat.le_refl _) _
              have hls8 := HLS7.out.below hba8
              have q8 := run_r B E G S o (esK L k) ck (.slice (some ⟨w6.heap.size, 0, none⟩) 4 4) [[97]] _ hls8.lw hoe hlo (fun p hp => by rw [List.mem_singleton.1 hp]; exact .inl rfl) (by decide) (txs_new w6 [[97, 114], [114], lA, [97]])
              have e8 : putA xOf (esK L k) [[97]] = esK L (k + 1) := by rw [HEN.out]; rfl
              rw [e8] at q8
              have HQ8 := hide' q8
              have HLS8 := hide' hls8
              clear q8 hls8 hba8 e8 hoe hlo2
              go_wp2_with fail
              refine HQ8.out.mono ?_
              rintro r w9 ⟨ra, rn, rfl, hrd, hf9⟩
              obtain ⟨S9, hls9⟩ := HLS8.out.run hf9 (by omega)
              have HLS9 := hide' hls9
              clear hls9 hf9 hrd HQ8 HLS8 HLS7
              go_wp2_with fail
              have e1 : wk ++ [[97]] = wrd L (k + 1) := by rw [HWK.out, HWN.out]
              have e2 : nm = (esK L (k + 1)).map (·.1) := by rw [HES.out, HNM.out]
              refine ⟨⟨k + 1, S9, some (ck + 1, arcE (esK L (k + 1))), ck + 1, by omega, by go_num, by rw [HES.out, ← HOO.out], by rw [← e1, ← e2]; exact HLS9.out, ⟨.inr ⟨_, rfl⟩, by rw [hck]; push_cast; omega, fun _ => ⟨_, rfl⟩⟩⟩, by simp [intOf]; omega⟩
            · rw [decide_eq_false hin] at qh
              have HQH := hide' qh
              clear qh
              go_wp2_with fail
              refine HQH.out.mono ?_
              rintro r w6 ⟨rfl, hb6⟩
              have hls6 := HLS5.out.below hb6
              clear HQH HLS5 hb6
              have hes : esK L (k + 1) = esK L k ++ [xOf [97]] := by rw [HEN.out]; exact (put_out hlo (.inl rfl) (HNM.out ▸ hin)).1
              have hba : Below w6.heap.size w6 (w6.alloc (.cells #[.string ⟨#[97]⟩] 9)) := (Below.refl _ _).alloc (Nat.le_refl _) _
              have hls1 := hls6.below hba
              have hown := hls1.os
              have hwz := hls1.bl.size
              have HLS1 := hide' hls1
              have HES := hide' hes
              clear hls1 hls6 hba hes hin
              go_wp2_with (at_builtin; refine wpList_append_lies _ rfl _ _ 24 rfl w.heap.size 9 inf _ 1 16 Tryz.underlying24 hi hz0 hz1 hz2 rfl (by decide) (.slice sa nm.length sc) nm.length (strs nm) rfl hown ⟨w6.heap.size, 0, none⟩ 1 1 (strs [[97]]) rfl rfl (ts_cells w6 [97]) (by intro u hu; simp at hu; rw [hu]; rfl) (by decide) (by unfold maxLen; omega) (by omega) hwz _ rfl ?_)
              intro g7 c7 w7 ho7 hgr7 hat7 hlt7
              have hls7 := HLS1.out.pushS hB (x := [97]) hgr7 (show OwT w7 w.heap.size (.slice (some ⟨g7, 0, none⟩) (nm.length + 1) c7) (nm ++ [[97]]) from ow_snoc ho7) rfl (hat7.imp_right fun h => h.trans (by simp))
              have HLS7 := hide' hls7
              clear hls7 ho7 hgr7 hat7 hown hwz HLS1
              have hlo2 : LOk (esK L (k + 1)) := esK_ok L (k + 1)
              obtain ⟨hoe, hck, _⟩ := HMD.out
              have hba8 : Below w7.heap.size w7 (w7.alloc (.cells #[.string ⟨#[97, 114]⟩, .string ⟨#[114]⟩, .string ⟨#[108, 46, 97]⟩, .string ⟨#[97]⟩] 9)) := (Below.refl _ _).alloc (Nat.le_refl _) _
              have hls8 := HLS7.out.below hba8
              have q8 := run_r B E G S o (esK L k) ck (.slice (some ⟨w7.heap.size, 0, none⟩) 4 4) [[97]] _ hls8.lw hoe hlo (fun p hp => by rw [List.mem_singleton.1 hp]; exact .inl rfl) (by decide) (txs_new w7 [[97, 114], [114], lA, [97]])
              have e8 : putA xOf (esK L k) [[97]] = esK L (k + 1) := by rw [HEN.out]; rfl
              rw [e8] at q8
              have HQ8 := hide' q8
              have HLS8 := hide' hls8
              clear q8 hls8 hba8 e8 hoe hlo2
              go_wp2_with fail
              refine HQ8.out.mono ?_
              rintro r w9 ⟨ra, rn, rfl, hrd, hf9⟩
              obtain ⟨S9, hls9⟩ := HLS8.out.run hf9 (by omega)
              have HLS9 := hide' hls9
              clear hls9 hf9 hrd HQ8 HLS8 HLS7
              go_wp2_with fail
              have e1 : wk ++ [[97]] = wrd L (k + 1) := by rw [HWK.out, HWN.out]
              have e2 : nm ++ [[97]] = (esK L (k + 1)).map (·.1) := by rw [HES.out, HNM.out, List.map_append]; rfl
              have eo : outN (esK L (k + 1)) = oo ++ [97] ++ [10] := by rw [HES.out, HOO.out]; unfold outN; rw [List.flatMap_append, List.append_assoc]; rfl
              refine ⟨⟨k + 1, S9, some (ck + 1, arcE (esK L (k + 1))), ck + 1, by omega, by go_num, by rw [eo, ← str_app, ← str_app], by rw [← e1, ← e2]; exact HLS9.out, ⟨.inr ⟨_, rfl⟩, by rw [hck]; push_cast; omega, fun _ => ⟨_, rfl⟩⟩⟩, by simp [intOf]; omega⟩
          · have hlt : lt x = [98] := by unfold lt; rw [hbx]; rfl
            rw [hlt] at hwn hen
            clear hlt hx
            have hsl : ∀ W : World, (Instr.slice 9 (.string ⟨#[97, 98]⟩) (some (.int .i64 1)) (some (.int .i64 2)) none).run Tryz.prog W = .ok (.string ⟨#[98]⟩) W := fun _ => by kernel_rfl
            have hba : Below wr.heap.size wr (wr.alloc (.cells #[.string ⟨#[98]⟩] 9)) := (Below.refl _ _).alloc (Nat.le_refl _) _
            have hls1 := hls.below hba
            have hown := hls1.oa
            have hwz := hls1.bl.size
            have HLS1 := hide' hls1
            have HWN := hide' hwn
            have HEN := hide' hen
            have HMD := hide' hmd
            clear hls1 hls hba hwn hen hmd
            go_wp2_with (at_builtin; refine wpList_append_lies _ rfl _ _ 24 rfl w.heap.size 9 inf _ 1 16 Tryz.underlying24 hi hz0 hz1 hz2 rfl (by decide) (.slice aa wk.length ac) wk.length (strs wk) rfl hown ⟨wr.heap.size, 0, none⟩ 1 1 (strs [[98]]) rfl rfl (ts_cells wr [98]) (by intro u hu; simp at hu; rw [hu]; rfl) (by decide) (by unfold maxLen; omega) (by omega) hwz _ rfl ?_)
            intro g5 c5 w5 ho5 hgr5 hat5 hlt5
            have hls5 := HLS1.out.pushA hB (x := [98]) hgr5 (show OwT w5 w.heap.size (.slice (some ⟨g5, 0, none⟩) (wk.length + 1) c5) (wk ++ [[98]]) from ow_snoc ho5) rfl (hat5.imp_right fun h => h.trans (by simp))
            have qh := has_any _ _ [98] w5 hls5.os.txs (by omega)
            have HLS5 := hide' hls5
            clear hls5 ho5 hgr5 hat5 hown hwz HLS1
            by_cases hin : [98] ∈ nm
            · rw [decide_eq_true hin] at qh
              have HQH := hide' qh
              clear qh
              go_wp2_with fail
              refine HQH.out.mono ?_
              rintro r w6 ⟨rfl, hb6⟩
              have hls6 := HLS5.out.below hb6
              clear HQH HLS5 hb6
              have hes : esK L (k + 1) = esK L k := by rw [HEN.out]; exact put_in hlo (.inr rfl) (HNM.out ▸ hin)
              have HLS7 := hide' hls6
              have HES := hide' hes
              clear hls6 hes hin
              have hlo2 : LOk (esK L (k + 1)) := esK_ok L (k + 1)
              obtain ⟨hoe, hck, _⟩ := HMD.out
              have hba8 : Below w6.heap.size w6 (w6.alloc (.cells #[.string ⟨#[97, 114]⟩, .string ⟨#[114]⟩, .string ⟨#[108, 46, 97]⟩, .string ⟨#[98]⟩] 9)) := (Below.refl _ _).alloc (Nat.le_refl _) _
              have hls8 := HLS7.out.below hba8
              have q8 := run_r B E G S o (esK L k) ck (.slice (some ⟨w6.heap.size, 0, none⟩) 4 4) [[98]] _ hls8.lw hoe hlo (fun p hp => by rw [List.mem_singleton.1 hp]; exact .inr rfl) (by decide) (txs_new w6 [[97, 114], [114], lA, [98]])
              have e8 : putA xOf (esK L k) [[98]] = esK L (k + 1) := by rw [HEN.out]; rfl
              rw [e8] at q8
              have HQ8 := hide' q8
              have HLS8 := hide' hls8
              clear q8 hls8 hba8 e8 hoe hlo2
              go_wp2_with fail
              refine HQ8.out.mono ?_
              rintro r w9 ⟨ra, rn, rfl, hrd, hf9⟩
              obtain ⟨S9, hls9⟩ := HLS8.out.run hf9 (by omega)
              have HLS9 := hide' hls9
              clear hls9 hf9 hrd HQ8 HLS8 HLS7
              go_wp2_with fail
              have e1 : wk ++ [[98]] = wrd L (k + 1) := by rw [HWK.out, HWN.out]
              have e2 : nm = (esK L (k + 1)).map (·.1) := by rw [HES.out, HNM.out]
              refine ⟨⟨k + 1, S9, some (ck + 1, arcE (esK L (k + 1))), ck + 1, by omega, by go_num, by rw [HES.out, ← HOO.out], by rw [← e1, ← e2]; exact HLS9.out, ⟨.inr ⟨_, rfl⟩, by rw [hck]; push_cast; omega, fun _ => ⟨_, rfl⟩⟩⟩, by simp [intOf]; omega⟩
            · rw [decide_eq_false hin] at qh
              have HQH := hide' qh
              clear qh
              go_wp2_with fail
              refine HQH.out.mono ?_
              rintro r w6 ⟨rfl, hb6⟩
              have hls6 := HLS5.out.below hb6
              clear HQH HLS5 hb6
              have hes : esK L (k + 1) = esK L k ++ [xOf [98]] := by rw [HEN.out]; exact (put_out hlo (.inr rfl) (HNM.out ▸ hin)).1
              have hba : Below w6.heap.size w6 (w6.alloc (.cells #[.string ⟨#[98]⟩] 9)) := (Below.refl _ _).alloc (Nat.le_refl _) _
              have hls1 := hls6.below hba
              have hown := hls1.os
              have hwz := hls1.bl.size
              have HLS1 := hide' hls1
              have HES := hide' hes
              clear hls1 hls6 hba hes hin
              go_wp2_with (at_builtin; refine wpList_append_lies _ rfl _ _ 24 rfl w.heap.size 9 inf _ 1 16 Tryz.underlying24 hi hz0 hz1 hz2 rfl (by decide) (.slice sa nm.length sc) nm.length (strs nm) rfl hown ⟨w6.heap.size, 0, none⟩ 1 1 (strs [[98]]) rfl rfl (ts_cells w6 [98]) (by intro u hu; simp at hu; rw [hu]; rfl) (by decide) (by unfold maxLen; omega) (by omega) hwz _ rfl ?_)
              intro g7 c7 w7 ho7 hgr7 hat7 hlt7
              have hls7 := HLS1.out.pushS hB (x := [98]) hgr7 (show OwT w7 w.heap.size (.slice (some ⟨g7, 0, none⟩) (nm.length + 1) c7) (nm ++ [[98]]) from ow_snoc ho7) rfl (hat7.imp_right fun h => h.trans (by simp))
              have HLS7 := hide' hls7
              clear hls7 ho7 hgr7 hat7 hown hwz HLS1
              have hlo2 : LOk (esK L (k + 1)) := esK_ok L (k + 1)
              obtain ⟨hoe, hck, _⟩ := HMD.out
              have hba8 : Below w7.heap.size w7 (w7.alloc (.cells #[.string ⟨#[97, 114]⟩, .string ⟨#[114]⟩, .string ⟨#[108, 46, 97]⟩, .string ⟨#[98]⟩] 9)) := (Below.refl _ _).alloc (Nat.le_refl _) _
              have hls8 := HLS7.out.below hba8
              have q8 := run_r B E G S o (esK L k) ck (.slice (some ⟨w7.heap.size, 0, none⟩) 4 4) [[98]] _ hls8.lw hoe hlo (fun p hp => by rw [List.mem_singleton.1 hp]; exact .inr rfl) (by decide) (txs_new w7 [[97, 114], [114], lA, [98]])
              have e8 : putA xOf (esK L k) [[98]] = esK L (k + 1) := by rw [HEN.out]; rfl
              rw [e8] at q8
              have HQ8 := hide' q8
              have HLS8 := hide' hls8
              clear q8 hls8 hba8 e8 hoe hlo2
              go_wp2_with fail
              refine HQ8.out.mono ?_
              rintro r w9 ⟨ra, rn, rfl, hrd, hf9⟩
              obtain ⟨S9, hls9⟩ := HLS8.out.run hf9 (by omega)
              have HLS9 := hide' hls9
              clear hls9 hf9 hrd HQ8 HLS8 HLS7
              go_wp2_with fail
              have e1 : wk ++ [[98]] = wrd L (k + 1) := by rw [HWK.out, HWN.out]
              have e2 : nm ++ [[98]] = (esK L (k + 1)).map (·.1) := by rw [HES.out, HNM.out, List.map_append]; rfl
              have eo : outN (esK L (k + 1)) = oo ++ [98] ++ [10] := by rw [HES.out, HOO.out]; unfold outN; rw [List.flatMap_append, List.append_assoc]; rfl
              refine ⟨⟨k + 1, S9, some (ck + 1, arcE (esK L (k + 1))), ck + 1, by omega, by go_num, by rw [eo, ← str_app, ← str_app], by rw [← e1, ← e2]; exact HLS9.out, ⟨.inr ⟨_, rfl⟩, by rw [hck]; push_cast; omega, fun _ => ⟨_, rfl⟩⟩⟩, by simp [intOf]; omega⟩
        · have k4 : ¬ (k : Int) < ln := by omega
          have hke : k = ln := by omega
          obtain ⟨e0, es', hee⟩ := esK_ne (L := L) (k := k) (by omega) (by rw [HLN.out]; omega)
          obtain ⟨_, hck, ho⟩ := (show OEs o (esK L k) ∧ ck = 3 + k ∧ (k ≠ 0 → ∃ t, o = some (t, arcE (esK L k))) from hmd)
          obtain ⟨t, ho⟩ := ho (by omega)
          rw [hee] at ho
          subst ho
          have hck9 : ck ≤ 100 := by omega
          rw [hee] at hlo HNM HOO
          clear hee hmd hck hke
          have hb1 : Below wr.heap.size wr (wr.alloc (.cells #[.string ⟨#[97, 114]⟩, .string ⟨#[116]⟩, .string ⟨#[108, 46, 97]⟩] 9)) := (Below.refl _ _).alloc (Nat.le_refl _) _
          have hl1 := hls.below hb1
          have q1 := run_t B E G _ t (e0 :: es') ck (.slice (some ⟨wr.heap.size, 0, none⟩) 3 3) _ hl1.lw hlo (txs_new wr [[97, 114], [116], lA])
          rw [← HOO.out] at q1
          have HQ1 := hide' q1
          have HL1 := hide' hl1
          clear q1 hl1 hb1 hls
          go_wp2_with fail
          refine HQ1.out.mono ?_
          rintro r w10 ⟨ra, rn, rfl, hrd, hf⟩
          obtain ⟨S10, hls10⟩ := HL1.out.run hf (by omega)
          have hst := rds_str hrd
          have HL10 := hide' hls10
          clear hrd hf hls10 HQ1 HL1
          go_wp2_with fail
          have hne : nm ≠ [] := fun e => by rw [HNM.out] at e; simp at e
          go_loopw [23, 24, 25, 26, 27] (fun i _ _ _ _ wx => ∃ (j : Nat) (S : Nat → Prop), j ≤ nm.length ∧ i = .int .i64 j ∧ LS w B E G S (some (t, arcE (e0 :: es'))) ck (.slice aa wk.length ac) (.slice sa nm.length sc) wk nm wx) (fun i _ _ _ _ _ => nm.length - (intOf i).toNat)
          case atStart => exact ⟨0, S10, Nat.zero_le _, rfl, HL10.out⟩
          case round =>
            obtain ⟨j, S, hj, rfl, hls⟩ := hrel
            clear HL10 hst
            obtain ⟨gs, os, hse, hrow⟩ : ∃ gs os, sa = some ⟨gs, os, none⟩ ∧ ∀ (i : Nat) x, nm[i]? = some x → wr.cell? ⟨gs, os + i, none⟩ = some (.string (mk x)) := by
              rcases hls.os.txs with ⟨_, _, _, e⟩ | ⟨g, o, c, e, _, _, h4⟩
              · exact absurd e hne
              · cases e; exact ⟨g, o, rfl, h4⟩
            subst hse
            by_cases hjl : j < nm.length
            · have k5 : (j : Int) < nm.length := by omega
              obtain ⟨e, he⟩ : ∃ e, (e0 :: es')[j]? = some e := ⟨_, List.getElem?_eq_getElem (by have h := congrArg List.length HNM.out; rw [List.length_map] at h; omega)⟩
              have hnj : nm[j]? = some e.1 := by rw [HNM.out, List.getElem?_map, he]; rfl
              obtain ⟨hpl, hAB⟩ := place_at' hlo he
              have d0 := hrow j e.1 hnj
              rcases hAB with rfl | rfl
              · have d1 : wr.cell? ⟨gs, os + j, none⟩ = some (.string ⟨#[97]⟩) := d0
                have hb1 : Below wr.heap.size wr (wr.alloc (.cells #[.string ⟨#[97, 114]⟩, .string ⟨#[112]⟩, .string ⟨#[108, 46, 97]⟩, .string ⟨#[97]⟩] 9)) := (Below.refl _ _).alloc (Nat.le_refl _) _
                have hl1 := hls.below hb1
                have q1 := run_p B E G _ t (e0 :: es') ck (.slice (some ⟨wr.heap.size, 0, none⟩) 4 4) [97] j eA _ hl1.lw hlo hpl he (by decide) (txs_new wr [[97, 114], [112], lA, [97]])
                have HQ1 := hide' q1
                have HL1 := hide' hl1
                clear q1 hl1 hb1 hls d0 hpl he hnj hrow
                go_wp2_with fail
                refine HQ1.out.mono ?_
                rintro r w11 ⟨ra, rn, rfl, hrd, hf⟩
                obtain ⟨S11, hls11⟩ := HL1.out.run hf (by omega)
                have hst : (convert 33 9 (.slice ra rn rn)).run Tryz.prog w11 = .ok (.string ⟨#[49]⟩) w11 := rds_str hrd
                have HL11 := hide' hls11
                clear hrd hf hls11 HQ1 HL1 d1
                go_wp2_with fail
                exact ⟨⟨j + 1, S11, by omega, by go_num, HL11.out⟩, by simp [intOf]; omega⟩
              · have d1 : wr.cell? ⟨gs, os + j, none⟩ = some (.string ⟨#[98]⟩) := d0
                have hb1 : Below wr.heap.size wr (wr.alloc (.cells #[.string ⟨#[97, 114]⟩, .string ⟨#[112]⟩, .string ⟨#[108, 46, 97]⟩, .string ⟨#[98]⟩] 9)) := (Below.refl _ _).alloc (Nat.le_refl _) _
                have hl1 := hls.below hb1
                have q1 := run_p B E G _ t (e0 :: es') ck (.slice (some ⟨wr.heap.size, 0, none⟩) 4 4) [98] j eB _ hl1.lw hlo hpl he (by decide) (txs_new wr [[97, 114], [112], lA, [98]])
                have HQ1 := hide' q1
                have HL1 := hide' hl1
                clear q1 hl1 hb1 hls d0 hpl he hnj hrow
                go_wp2_with fail
                refine HQ1.out.mono ?_
                rintro r w11 ⟨ra, rn, rfl, hrd, hf⟩
                obtain ⟨S11, hls11⟩ := HL1.out.run hf (by omega)
                have hst : (convert 33 9 (.slice ra rn rn)).run Tryz.prog w11 = .ok (.string ⟨#[50, 50]⟩) w11 := rds_str hrd
                have HL11 := hide' hls11
                clear hrd hf hls11 HQ1 HL1 d1
                go_wp2_with fail
                exact ⟨⟨j + 1, S11, by omega, by go_num, HL11.out⟩, by simp [intOf]; omega⟩
            · have k5 : ¬ (j : Int) < nm.length := by omega
              have hn0 : nm[0]? = some e0.1 := by rw [HNM.out]; rfl
              have k6 : (0 : Int) < nm.length := by have h := congrArg List.length HNM.out; simp at h; omega
              have d0 := hrow 0 e0.1 hn0
              rw [Nat.add_zero] at d0
              obtain ⟨hl', hp0, hpn⟩ := drop_first hlo
              have hb1 : Below wr.heap.size wr (wr.alloc (.cells #[.string ⟨#[97, 114]⟩, .string ⟨#[100]⟩, .string ⟨#[108, 46, 97]⟩, .string (mk e0.1)] 9)) := (Below.refl _ _).alloc (Nat.le_refl _) _
              have hl1 := hls.below hb1
              have q1 := run_d B E G _ t e0 es' ck (.slice (some ⟨wr.heap.size, 0, none⟩) 4 4) e0.1 _ hl1.lw hlo hl' hp0 (txs_new wr [[97, 114], [100], lA, e0.1])
              have HQ1 := hide' q1
              have HL1 := hide' hl1
              clear q1 hl1 hb1 hls hrow hp0
              go_wp2_with fail
              refine HQ1.out.mono ?_
              rintro r w12 ⟨ra, rn, rfl, hrd, hf⟩
              obtain ⟨S12, hls12⟩ := HL1.out.run hf (by omega)
              have d2 : w12.cell? ⟨gs, os, none⟩ = some (.string (mk e0.1)) := by
                rcases hls12.os.txs with ⟨_, _, _, e⟩ | ⟨g, o, c, e, _, _, h4⟩
                · exact absurd e hne
                · cases e; exact h4 0 _ hn0
              have hb2 : Below w12.heap.size w12 (w12.alloc (.cells #[.string ⟨#[97, 114]⟩, .string ⟨#[112]⟩, .string ⟨#[108, 46, 97]⟩, .string (mk e0.1)] 9)) := (Below.refl _ _).alloc (Nat.le_refl _) _
              have hl2 := hls12.below hb2
              have q2 := run_np B E G _ (ck + 1) es' (ck + 1) (.slice (some ⟨w12.heap.size, 0, none⟩) 4 4) e0.1 _ hl2.lw hl' hpn (txs_new w12 [[97, 114], [112], lA, e0.1])
              have HQ2 := hide' q2
              have HL2 := hide' hl2
              clear q2 hl2 hb2 hls12 hf hrd HQ1 HL1 hn0 hpn d0
              go_wp2_with fail
              refine HQ2.out.mono ?_
              rintro r w13 ⟨rb, rm, rfl, hrd, hf⟩
              obtain ⟨S13, hls13⟩ := HL2.out.run hf (by omega)
              have HB13 := hide' hls13.bl
              clear hls13 hf hrd HQ2 HL2 d2
              go_wp2_with fail
              go_ret
              exact ⟨rfl, HB13.out⟩
    | false =>
      go_loopw [8, 9, 10, 11, 12, 13, 14, 15, 16] (fun a l s i _ _ _ _ _ wr => ∃ (k : Nat) (S : Nat → Prop) (o : Option (Int × Bs)) (ck : Int), k ≤ ln ∧ i = .int .i64 k ∧ l = .string (mk (outN (esK L k))) ∧ LS w B E G S o ck a s (wrd L k) ((esK L k).map (·.1)) wr ∧ Md false k o ck (esK L k)) (fun _ _ _ i _ _ _ _ _ _ => ln - (intOf i).toNat)
      case atStart => exact ⟨0, _, none, 3, Nat.zero_le _, rfl, rfl, HLS.out, ⟨rfl, rfl⟩⟩
      case round =>
        obtain ⟨k, S, o, ck, hk, rfl, rfl, hls, hmd⟩ := hrel
        clear HLS
        have hlo := esK_ok L k
        have hol : List.length (outN (esK L k)) ≤ 100 := by rcases hlo with h | h | h | h | h <;> rw [h] <;> decide
        have hwl : (wrd L k).length ≤ 20 := by unfold wrd; simp only [List.length_cons, List.length_map, List.length_take]; omega
        have hsl3 : ((esK L k).map (·.1)).length ≤ 20 := by rcases hlo with h | h | h | h | h <;> rw [h] <;> decide
        obtain ⟨nm, hnm⟩ : ∃ nm, nm = (esK L k).map (·.1) := ⟨_, rfl⟩
        obtain ⟨wk, hwk⟩ : ∃ wk, wk = wrd L k := ⟨_, rfl⟩
        obtain ⟨oo, hoo⟩ : ∃ oo, oo = outN (esK L k) := ⟨_, rfl⟩
        rw [← hnm] at hls hsl3
        rw [← hwk] at hls hwl
        rw [← hoo] at hol ⊢
        have HNM := hide' hnm
        have HWK := hide' hwk
        have HOO := hide' hoo
        clear hnm hwk hoo
        obtain ⟨aa, ac, hae⟩ := hls.oa.len
        obtain ⟨sa, sc, hse⟩ := hls.os.len
        subst hae hse
        by_cases hkl : k < ln
        · have k4 : (k : Int) < ln := by omega
          obtain ⟨x, hx⟩ : ∃ x, L[k]? = some x := ⟨_, List.getElem?_eq_getElem (by rw [HLN.out]; exact hkl)⟩
          obtain ⟨na, hva, d0⟩ : ∃ na, va = some na ∧ wr.cell? (na.add k) = some (.int .i64 x) := by
            rcases HN.out with ⟨_, _, _, e⟩ | ⟨na, c, e, h2, h3⟩
            · rw [e] at hx; simp at hx
            · refine ⟨na, ?_, ?_⟩
              · cases e; rfl
              · have hlt : (na.add k).block < w.heap.size := by rw [add_block]; exact h2
                exact (hls.bl.cell (p := na.add k) hlt).trans (h3 k x hx)
          subst hva
          have hwn := wrd_next hx
          have hen := esK_next hx
          obtain ⟨inf, hi, hz0, hz1, hz2⟩ := info_parts info9
          rcases and_one x with hbx | hbx
          · have hlt : lt x = [97] := by unfold lt; rw [hbx]; rfl
            rw [hlt] at hwn hen
            clear hlt hx
            have hsl : ∀ W : World, (Instr.slice 9 (.string ⟨#[97, 98]⟩) (some (.int .i64 0)) (some (.int .i64 1)) none).run Tryz.prog W = .ok (.string ⟨#[97]⟩) W := fun _ => by kernel_rfl
            have hba : Below wr.heap.size wr (wr.alloc (.cells #[.string ⟨#[97]⟩] 9)) := (Below.refl _ _).alloc (Nat.le_refl _) _
            have hls1 := hls.below hba
            have hown := hls1.oa
            have hwz := hls1.bl.size
            have HLS1 := hide' hls1
            have HWN := hide' hwn
            have HEN := hide' hen
            have HMD := hide' hmd
            clear hls1 hls hba hwn hen hmd
            go_wp2_with (at_builtin; refine wpList_append_lies _ rfl _ _ 24 rfl w.heap.size 9 inf _ 1 16 Tryz.underlying24 hi hz0 hz1 hz2 rfl (by decide) (.slice aa wk.length ac) wk.length (strs wk) rfl hown ⟨wr.heap.size, 0, none⟩ 1 1 (strs [[97]]) rfl rfl (ts_cells wr [97]) (by intro u hu; simp at hu; rw [hu]; rfl) (by decide) (by unfold maxLen; omega) (by omega) hwz _ rfl ?_)
            intro g5 c5 w5 ho5 hgr5 hat5 hlt5
            have hls5 := HLS1.out.pushA hB (x := [97]) hgr5 (show OwT w5 w.heap.size (.slice (some ⟨g5, 0, none⟩) (wk.length + 1) c5) (wk ++ [[97]]) from ow_snoc ho5) rfl (hat5.imp_right fun h => h.trans (by simp))
            have qh := has_any _ _ [97] w5 hls5.os.txs (by omega)
            have HLS5 := hide' hls5
            clear hls5 ho5 hgr5 hat5 hown hwz HLS1
            by_cases hin : [97] ∈ nm
            · rw [decide_eq_true hin] at qh
              have HQH := hide' qh
              clear qh
              go_wp2_with fail
              refine HQH.out.mono ?_
              rintro r w6 ⟨rfl, hb6⟩
              have hls6 := HLS5.out.below hb6
              clear HQH HLS5 hb6
              have hes : esK L (k + 1) = esK L k := by rw [HEN.out]; exact put_in hlo (.inl rfl) (HNM.out ▸ hin)
              have HLS7 := hide' hls6
              have HES := hide' hes
              clear hls6 hes hin
              go_wp2_with fail
              have e1 : wk ++ [[97]] = wrd L (k + 1) := by rw [HWK.out, HWN.out]
              have e2 : nm = (esK L (k + 1)).map (·.1) := by rw [HES.out, HNM.out]
              refine ⟨⟨k + 1, S, o, ck, by omega, by go_num, by rw [HES.out, ← HOO.out], by rw [← e1, ← e2]; exact HLS7.out, (show o = none ∧ ck = 3 from HMD.out)⟩, by simp [intOf]; omega⟩
            · rw [decide_eq_false hin] at qh
              have HQH := hide' qh
              clear qh
              go_wp2_with fail
              refine HQH.out.mono ?_
              rintro r w6 ⟨rfl, hb6⟩
              have hls6 := HLS5.out.below hb6
              clear HQH HLS5 hb6
              have hes : esK L (k + 1) = esK L k ++ [xOf [97]] := by rw [HEN.out]; exact (put_out hlo (.inl rfl) (HNM.out ▸ hin)).1
              have hba : Below w6.heap.size w6 (w6.alloc (.cells #[.string ⟨#[97]⟩] 9)) := (Below.refl _ _).alloc (Nat.le_refl _) _
              have hls1 := hls6.below hba
              have hown := hls1.os
              have hwz := hls1.bl.size
              have HLS1 := hide' hls1
              have HES := hide' hes
              clear hls1 hls6 hba hes hin
              go_wp2_with (at_builtin; refine wpList_append_lies _ rfl _ _ 24 rfl w.heap.size 9 inf _ 1 16 Tryz.underlying24 hi hz0 hz1 hz2 rfl (by decide) (.slice sa nm.length sc) nm.length (strs nm) rfl hown ⟨w6.heap.size, 0, none⟩ 1 1 (strs [[97]]) rfl rfl (ts_cells w6 [97]) (by intro u hu; simp at hu; rw [hu]; rfl) (by decide) (by unfold maxLen; omega) (by omega) hwz _ rfl ?_)
              intro g7 c7 w7 ho7 hgr7 hat7 hlt7
              have hls7 := HLS1.out.pushS hB (x := [97]) hgr7 (show OwT w7 w.heap.size (.slice (some ⟨g7, 0, none⟩) (nm.length + 1) c7) (nm ++ [[97]]) from ow_snoc ho7) rfl (hat7.imp_right fun h => h.trans (by simp))
              have HLS7 := hide' hls7
              clear hls7 ho7 hgr7 hat7 hown hwz HLS1
              go_wp2_with fail
              have e1 : wk ++ [[97]] = wrd L (k + 1) := by rw [HWK.out, HWN.out]
              have e2 : nm ++ [[97]] = (esK L (k + 1)).map (·.1) := by rw [HES.out, HNM.out, List.map_append]; rfl
              have eo : outN (esK L (k + 1)) = oo ++ [97] ++ [10] := by rw [HES.out, HOO.out]; unfold outN; rw [List.flatMap_append, List.append_assoc]; rfl
              refine ⟨⟨k + 1, S, o, ck, by omega, by go_num, by rw [eo, ← str_app, ← str_app], by rw [← e1, ← e2]; exact HLS7.out, (show o = none ∧ ck = 3 from HMD.out)⟩, by simp [intOf]; omega⟩
          · have hlt : lt x = [98] := by unfold lt; rw [hbx]; rfl
            rw [hlt] at hwn hen
            clear hlt hx
            have hsl : ∀ W : World, (Instr.slice 9 (.string ⟨#[97, 98]⟩) (some (.int .i64 1)) (some (.int .i64 2)) none).run Tryz.prog W = .ok (.string ⟨#[98]⟩) W := fun _ => by kernel_rfl
            have hba : Below wr.heap.size wr (wr.alloc (.cells #[.string ⟨#[98]⟩] 9)) := (Below.refl _ _).alloc (Nat.le_refl _) _
            have hls1 := hls.below hba
            have hown := hls1.oa
            have hwz := hls1.bl.size
            have HLS1 := hide' hls1
            have HWN := hide' hwn
            have HEN := hide' hen
            have HMD := hide' hmd
            clear hls1 hls hba hwn hen hmd
            go_wp2_with (at_builtin; refine wpList_append_lies _ rfl _ _ 24 rfl w.heap.size 9 inf _ 1 16 Tryz.underlying24 hi hz0 hz1 hz2 rfl (by decide) (.slice aa wk.length ac) wk.length (strs wk) rfl hown ⟨wr.heap.size, 0, none⟩ 1 1 (strs [[98]]) rfl rfl (ts_cells wr [98]) (by intro u hu; simp at hu; rw [hu]; rfl) (by decide) (by unfold maxLen; omega) (by omega) hwz _ rfl ?_)
            intro g5 c5 w5 ho5 hgr5 hat5 hlt5
            have hls5 := HLS1.out.pushA hB (x := [98]) hgr5 (show OwT w5 w.heap.size (.slice (some ⟨g5, 0, none⟩) (wk.length + 1) c5) (wk ++ [[98]]) from ow_snoc ho5) rfl (hat5.imp_right fun h => h.trans (by simp))
            have qh := has_any _ _ [98] w5 hls5.os.txs (by omega)
            have HLS5 := hide' hls5
            clear hls5 ho5 hgr5 hat5 hown hwz HLS1
            by_cases hin : [98] ∈ nm
            · rw [decide_eq_true hin] at qh
              have HQH := hide' qh
              clear qh
              go_wp2_with fail
              refine HQH.out.mono ?_
              rintro r w6 ⟨rfl, hb6⟩
              have hls6 := HLS5.out.below hb6
              clear HQH HLS5 hb6
              have hes : esK L (k + 1) = esK L k := by rw [HEN.out]; exact put_in hlo (.inr rfl) (HNM.out ▸ hin)
              have HLS7 := hide' hls6
              have HES := hide' hes
              clear hls6 hes hin
              go_wp2_with fail
              have e1 : wk ++ [[98]] = wrd L (k + 1) := by rw [HWK.out, HWN.out]
              have e2 : nm = (esK L (k + 1)).map (·.1) := by rw [HES.out, HNM.out]
              refine ⟨⟨k + 1, S, o, ck, by omega, by go_num, by rw [HES.out, ← HOO.out], by rw [← e1, ← e2]; exact HLS7.out, (show o = none ∧ ck = 3 from HMD.out)⟩, by simp [intOf]; omega⟩
            · rw [decide_eq_false hin] at qh
              have HQH := hide' qh
              clear qh
              go_wp2_with fail
              refine HQH.out.mono ?_
              rintro r w6 ⟨rfl, hb6⟩
              have hls6 := HLS5.out.below hb6
              clear HQH HLS5 hb6
              have hes : esK L (k + 1) = esK L k ++ [xOf [98]] := by rw [HEN.out]; exact (put_out hlo (.inr rfl) (HNM.out ▸ hin)).1
              have hba : Below w6.heap.size w6 (w6.alloc (.cells #[.string ⟨#[98]⟩] 9)) := (Below.refl _ _).alloc (Nat.le_refl _) _
              have hls1 := hls6.below hba
              have hown := hls1.os
              have hwz := hls1.bl.size
              have HLS1 := hide' hls1
              have HES := hide' hes
              clear hls1 hls6 hba hes hin
              go_wp2_with (at_builtin; refine wpList_append_lies _ rfl _ _ 24 rfl w.heap.size 9 inf _ 1 16 Tryz.underlying24 hi hz0 hz1 hz2 rfl (by decide) (.slice sa nm.length sc) nm.length (strs nm) rfl hown ⟨w6.heap.size, 0, none⟩ 1 1 (strs [[98]]) rfl rfl (ts_cells w6 [98]) (by intro u hu; simp at hu; rw [hu]; rfl) (by decide) (by unfold maxLen; omega) (by omega) hwz _ rfl ?_)
              intro g7 c7 w7 ho7 hgr7 hat7 hlt7
              have hls7 := HLS1.out.pushS hB (x := [98]) hgr7 (show OwT w7 w.heap.size (.slice (some ⟨g7, 0, none⟩) (nm.length + 1) c7) (nm ++ [[98]]) from ow_snoc ho7) rfl (hat7.imp_right fun h => h.trans (by simp))
              have HLS7 := hide' hls7
              clear hls7 ho7 hgr7 hat7 hown hwz HLS1
              go_wp2_with fail
              have e1 : wk ++ [[98]] = wrd L (k + 1) := by rw [HWK.out, HWN.out]
              have e2 : nm ++ [[98]] = (esK L (k + 1)).map (·.1) := by rw [HES.out, HNM.out, List.map_append]; rfl
              have eo : outN (esK L (k + 1)) = oo ++ [98] ++ [10] := by rw [HES.out, HOO.out]; unfold outN; rw [List.flatMap_append, List.append_assoc]; rfl
              refine ⟨⟨k + 1, S, o, ck, by omega, by go_num, by rw [eo, ← str_app, ← str_app], by rw [← e1, ← e2]; exact HLS7.out, (show o = none ∧ ck = 3 from HMD.out)⟩, by simp [intOf]; omega⟩
        · have k4 : ¬ (k : Int) < ln := by omega
          have hke : k = ln := by omega
          obtain ⟨e0, es', hee⟩ := esK_ne (L := L) (k := k) (by omega) (by rw [HLN.out]; omega)
          obtain ⟨ho, hck⟩ := (show o = none ∧ ck = 3 from hmd)
          subst ho hck
          have q9 := run_rc B E G S none [] 3 (.slice aa wk.length ac) ((L.take k).map lt) wr hls.lw (.inl ⟨rfl, rfl⟩) (.inl rfl) (fun p hp => by obtain ⟨x, _, rfl⟩ := List.mem_map.1 hp; exact lt_ok x) (by rw [List.length_map, List.length_take]; omega) (by have h := hls.oa.txs; rw [HWK.out] at h ⊢; exact h)
          have e9 : putA xOf [] ((L.take k).map lt) = e0 :: es' := hee
          rw [e9] at q9
          rw [hee] at hlo HNM HOO
          have HQ9 := hide' q9
          have HL9 := hide' hls
          clear q9 e9 hls hee hmd hke
          go_wp2_with fail
          refine HQ9.out.mono ?_
          rintro r w9 ⟨ra, rn, rfl, hrd, hf9⟩
          obtain ⟨S9, hls9⟩ := HL9.out.run hf9 (by decide)
          clear HL9 HQ9 hf9 hrd
          obtain ⟨t, ht⟩ : ∃ t : Int, t = 3 + 1 := ⟨_, rfl⟩
          obtain ⟨ck, hck⟩ : ∃ ck : Int, ck = 3 + 1 := ⟨_, rfl⟩
          have hls := hls9
          rw [show (some ((3 : Int) + 1, arcE (e0 :: es')) : Option (Int × Bs)) = some (t, arcE (e0 :: es')) by rw [ht], ← hck] at hls
          have hck9 : ck ≤ 100 := by omega
          clear hls9 ht hck
          have hb1 : Below w9.heap.size w9 (w9.alloc (.cells #[.string ⟨#[97, 114]⟩, .string ⟨#[116]⟩, .string ⟨#[108, 46, 97]⟩] 9)) := (Below.refl _ _).alloc (Nat.le_refl _) _
          have hl1 := hls.below hb1
          have q1 := run_t B E G _ t (e0 :: es') ck (.slice (some ⟨w9.heap.size, 0, none⟩) 3 3) _ hl1.lw hlo (txs_new w9 [[97, 114], [116], lA])
          rw [← HOO.out] at q1
          have HQ1 := hide' q1
          have HL1 := hide' hl1
          clear q1 hl1 hb1 hls
          go_wp2_with fail
          refine HQ1.out.mono ?_
          rintro r w10 ⟨ra, rn, rfl, hrd, hf⟩
          obtain ⟨S10, hls10⟩ := HL1.out.run hf (by omega)
          have hst := rds_str hrd
          have HL10 := hide' hls10
          clear hrd hf hls10 HQ1 HL1
          go_wp2_with fail
          have hne : nm ≠ [] := fun e => by rw [HNM.out] at e; simp at e
          go_loopw [23, 24, 25, 26, 27] (fun i _ _ _ _ wx => ∃ (j : Nat) (S : Nat → Prop), j ≤ nm.length ∧ i = .int .i64 j ∧ LS w B E G S (some (t, arcE (e0 :: es'))) ck (.slice aa wk.length ac) (.slice sa nm.length sc) wk nm wx) (fun i _ _ _ _ _ => nm.length - (intOf i).toNat)
          case atStart => exact ⟨0, S10, Nat.zero_le _, rfl, HL10.out⟩
          case round =>
            obtain ⟨j, S, hj, rfl, hls⟩ := hrel
            clear HL10 hst
            obtain ⟨gs, os, hse, hrow⟩ : ∃ gs os, sa = some ⟨gs, os, none⟩ ∧ ∀ (i : Nat) x, nm[i]? = some x → wr.cell? ⟨gs, os + i, none⟩ = some (.string (mk x)) := by
              rcases hls.os.txs with ⟨_, _, _, e⟩ | ⟨g, o, c, e, _, _, h4⟩
              · exact absurd e hne
              · cases e; exact ⟨g, o, rfl, h4⟩
            subst hse
            by_cases hjl : j < nm.length
            · have k5 : (j : Int) < nm.length := by omega
              obtain ⟨e, he⟩ : ∃ e, (e0 :: es')[j]? = some e := ⟨_, List.getElem?_eq_getElem (by have h := congrArg List.length HNM.out; rw [List.length_map] at h; omega)⟩
              have hnj : nm[j]? = some e.1 := by rw [HNM.out, List.getElem?_map, he]; rfl
              obtain ⟨hpl, hAB⟩ := place_at' hlo he
              have d0 := hrow j e.1 hnj
              rcases hAB with rfl | rfl
              · have d1 : wr.cell? ⟨gs, os + j, none⟩ = some (.string ⟨#[97]⟩) := d0
                have hb1 : Below wr.heap.size wr (wr.alloc (.cells #[.string ⟨#[97, 114]⟩, .string ⟨#[112]⟩, .string ⟨#[108, 46, 97]⟩, .string ⟨#[97]⟩] 9)) := (Below.refl _ _).alloc (Nat.le_refl _) _
                have hl1 := hls.below hb1
                have q1 := run_p B E G _ t (e0 :: es') ck (.slice (some ⟨wr.heap.size, 0, none⟩) 4 4) [97] j eA _ hl1.lw hlo hpl he (by decide) (txs_new wr [[97, 114], [112], lA, [97]])
                have HQ1 := hide' q1
                have HL1 := hide' hl1
                clear q1 hl1 hb1 hls d0 hpl he hnj hrow
                go_wp2_with fail
                refine HQ1.out.mono ?_
                rintro r w11 ⟨ra, rn, rfl, hrd, hf⟩
                obtain ⟨S11, hls11⟩ := HL1.out.run hf (by omega)
                have hst : (convert 33 9 (.slice ra rn rn)).run Tryz.prog w11 = .ok (.string ⟨#[49]⟩) w11 := rds_str hrd
                have HL11 := hide' hls11
                clear hrd hf hls11 HQ1 HL1 d1
                go_wp2_with fail
                exact ⟨⟨j + 1, S11, by omega, by go_num, HL11.out⟩, by simp [intOf]; omega⟩
              · have d1 : wr.cell? ⟨gs, os + j, none⟩ = some (.string ⟨#[98]⟩) := d0
                have hb1 : Below wr.heap.size wr (wr.alloc (.cells #[.string ⟨#[97, 114]⟩, .string ⟨#[112]⟩, .string ⟨#[108, 46, 97]⟩, .string ⟨#[98]⟩] 9)) := (Below.refl _ _).alloc (Nat.le_refl _) _
                have hl1 := hls.below hb1
                have q1 := run_p B E G _ t (e0 :: es') ck (.slice (some ⟨wr.heap.size, 0, none⟩) 4 4) [98] j eB _ hl1.lw hlo hpl he (by decide) (txs_new wr [[97, 114], [112], lA, [98]])
                have HQ1 := hide' q1
                have HL1 := hide' hl1
                clear q1 hl1 hb1 hls d0 hpl he hnj hrow
                go_wp2_with fail
                refine HQ1.out.mono ?_
                rintro r w11 ⟨ra, rn, rfl, hrd, hf⟩
                obtain ⟨S11, hls11⟩ := HL1.out.run hf (by omega)
                have hst : (convert 33 9 (.slice ra rn rn)).run Tryz.prog w11 = .ok (.string ⟨#[50, 50]⟩) w11 := rds_str hrd
                have HL11 := hide' hls11
                clear hrd hf hls11 HQ1 HL1 d1
                go_wp2_with fail
                exact ⟨⟨j + 1, S11, by omega, by go_num, HL11.out⟩, by simp [intOf]; omega⟩
            · have k5 : ¬ (j : Int) < nm.length := by omega
              have hn0 : nm[0]? = some e0.1 := by rw [HNM.out]; rfl
              have k6 : (0 : Int) < nm.length := by have h := congrArg List.length HNM.out; simp at h; omega
              have d0 := hrow 0 e0.1 hn0
              rw [Nat.add_zero] at d0
              obtain ⟨hl', hp0, hpn⟩ := drop_first hlo
              have hb1 : Below wr.heap.size wr (wr.alloc (.cells #[.string ⟨#[97, 114]⟩, .string ⟨#[100]⟩, .string ⟨#[108, 46, 97]⟩, .string (mk e0.1)] 9)) := (Below.refl _ _).alloc (Nat.le_refl _) _
              have hl1 := hls.below hb1
              have q1 := run_d B E G _ t e0 es' ck (.slice (some ⟨wr.heap.size, 0, none⟩) 4 4) e0.1 _ hl1.lw hlo hl' hp0 (txs_new wr [[97, 114], [100], lA, e0.1])
              have HQ1 := hide' q1
              have HL1 := hide' hl1
              clear q1 hl1 hb1 hls hrow hp0
              go_wp2_with fail
              refine HQ1.out.mono ?_
              rintro r w12 ⟨ra, rn, rfl, hrd, hf⟩
              obtain ⟨S12, hls12⟩ := HL1.out.run hf (by omega)
              have d2 : w12.cell? ⟨gs, os, none⟩ = some (.string (mk e0.1)) := by
                rcases hls12.os.txs with ⟨_, _, _, e⟩ | ⟨g, o, c, e, _, _, h4⟩
                · exact absurd e hne
                · cases e; exact h4 0 _ hn0
              have hb2 : Below w12.heap.size w12 (w12.alloc (.cells #[.string ⟨#[97, 114]⟩, .string ⟨#[112]⟩, .string ⟨#[108, 46, 97]⟩, .string (mk e0.1)] 9)) := (Below.refl _ _).alloc (Nat.le_refl _) _
              have hl2 := hls12.below hb2
              have q2 := run_np B E G _ (ck + 1) es' (ck + 1) (.slice (some ⟨w12.heap.size, 0, none⟩) 4 4) e0.1 _ hl2.lw hl' hpn (txs_new w12 [[97, 114], [112], lA, e0.1])
              have HQ2 := hide' q2
              have HL2 := hide' hl2
              clear q2 hl2 hb2 hls12 hf hrd HQ1 HL1 hn0 hpn d0
              go_wp2_with fail
              refine HQ2.out.mono ?_
              rintro r w13 ⟨rb, rm, rfl, hrd, hf⟩
              obtain ⟨S13, hls13⟩ := HL2.out.run hf (by omega)
              have HB13 := hide' hls13.bl
              clear hls13 hf hrd HQ2 HL2 d2
              go_wp2_with fail
              go_ret
              exact ⟨rfl, HB13.out⟩
end Go.Proofs.YtbfchadcpokjoaaGreatDoor
