/- The contract of refs.Parse. -/
import Derived.Test.YtaemmgllhmjceaaDoorPr
import Derived.Test.YtaemmgllhmjceaaDoorPadd
import Derived.Test.YtaemmgllhmjceaaDoorIns
import Derived.Test.YtaemmgllhmjceaaDoorScan
import Derived.ScopeJumps
namespace Go.Proofs.YtaemmgllhmjceaaDoor
open Go.RowKit

theorem flL_fst (L : List Px) (row : Bs) : (flL L row).map Prod.fst = fl row (L.map Prod.fst) := by
  unfold flL fl
  split
  · rfl
  · rw [List.map_append]; rfl
/-- the parts in memory -/
def PartsAt (w : World) (B : Nat) (v : Value) (ps : List Pt) : Prop := ∃ L : List Px, L.map Prod.fst = ps ∧ w.ownsRow B 30 4 v L.length (flatP L) ∧ ∀ x ∈ L, ArgV w B x
/-- what Parse tells -/
def ParseR (w' : World) (B : Nat) (e : Ending) : Option (List Pt) → Prop
  | some ps => ∃ v, e = .returned (.tuple #[v, .int .i64 0]) ∧ PartsAt w' B v ps
  | none => e = .returned (.tuple #[.slice none 0 0, .int .i64 40])
/-- where the way is left for the end -/
def JB (w : World) (s : ByteArray) (R : Option (List Pt)) (a' : Act) (w' : World) : Prop :=
  Below w.heap.size w w' ∧ R = none ∧ ∃ (u1 u2 u3 u4 u5 u6 u7 u8 u9 u10 u11 u12 u13 u14 u15 u16 u17 u18 u19 u20 u21 u22 u23 u24 u25 u26 u27 u28 u29 u30 u31 u32 u33 u34 u35 u36 u37 u38 u39 u40 u41 u42 u43 u44 u45 u46 u47 : Value), a' = { tmps := #[.string s, u1, u2, u3, u4, u5, u6, u7, u8, u9, u10, u11, u12, u13, u14, u15, u16, u17, u18, u19, u20, u21, u22, u23, u24, u25, u26, u27, u28, u29, u30, u31, u32, u33, u34, u35, u36, u37, u38, u39, u40, u41, u42, u43, u44, u45, u46, u47], defers := [] }
theorem jb_intro {w : World} {s : ByteArray} {R : Option (List Pt)} {w' : World} {u1 u2 u3 u4 u5 u6 u7 u8 u9 u10 u11 u12 u13 u14 u15 u16 u17 u18 u19 u20 u21 u22 u23 u24 u25 u26 u27 u28 u29 u30 u31 u32 u33 u34 u35 u36 u37 u38 u39 u40 u41 u42 u43 u44 u45 u46 u47 : Value} (h : Below w.heap.size w w') (h2 : R = none) : JB w s R { tmps := #[.string s, u1, u2, u3, u4, u5, u6, u7, u8, u9, u10, u11, u12, u13, u14, u15, u16, u17, u18, u19, u20, u21, u22, u23, u24, u25, u26, u27, u28, u29, u30, u31, u32, u33, u34, u35, u36, u37, u38, u39, u40, u41, u42, u43, u44, u45, u46, u47], defers := [] } w' := ⟨h, h2, u1, u2, u3, u4, u5, u6, u7, u8, u9, u10, u11, u12, u13, u14, u15, u16, u17, u18, u19, u20, u21, u22, u23, u24, u25, u26, u27, u28, u29, u30, u31, u32, u33, u34, u35, u36, u37, u38, u39, u40, u41, u42, u43, u44, u45, u46, u47, rfl⟩
theorem ej_ret {l : Nat} {J : Act → World → Prop} {Q : Exit → Act → World → Prop} {a : Act} {w : World} (h : Q .ret a w) : Exit.jump l J Q .ret a w := h
set_option maxRecDepth 100000 in
set_option maxHeartbeats 8000000 in
theorem parse_any (s : ByteArray) (hs : s.size ≤ 100000) (w : World) (hF : FnsAt w 0) :
    Calls Tryd.prog 8 #[.string s] w fun e w' => ParseR w' w.heap.size e (prs (tl s) (s.size + 1) 0 [] []) ∧ Below w.heap.size w w' := by
  obtain ⟨R, hR⟩ : ∃ R, R = prs (tl s) (s.size + 1) 0 [] [] := ⟨_, rfl⟩
  have HR := hide' hR
  rw [← hR]
  clear hR
  go_enter Tryd.func8, Tryd.ntmps8
  go_wp2
  refine wp_scope_jumps 0 (JB w s R) (fun _ _ => 0) rfl ?_ ?_
  · go_wp2
    go_loopw [5] (fun i wr => ∃ (k f : Nat) (row : Bs) (L : List Px) (lv rv : Value), k ≤ s.size ∧ s.size + 1 ≤ k + f ∧ row.length ≤ k ∧ L.length ≤ 2 * k ∧ i = .int .i64 k ∧ PsAt wr w.heap.size w.heap.size L row lv rv ∧ Below w.heap.size w wr ∧ Hid (prs (tl s) f k row (L.map Prod.fst) = R)) (fun i _ => s.size - (intOf i).toNat)
    case atStart => exact ⟨0, s.size + 1, [], [], _, _, Nat.zero_le _, by omega, Nat.le_refl _, Nat.le_refl _, rfl, ps_new w, (Below.refl _ w).alloc (Nat.le_refl _) _, HR.out.symm⟩
    case round =>
      clear HR
      obtain ⟨k, f, row, L, lv, rv, hk, hf, hrl, hLl, rfl, hP, hB, HI⟩ := hrel
      have hsz := hB.size
      by_cases hlt : k < s.size
      · obtain ⟨f, rfl⟩ : ∃ f', f = f' + 1 := ⟨f - 1, by omega⟩
        have hg := getD_at s k hlt
        have hbg := bg_lt (tl s) k (lt_tl hlt)
        rw [tl_len] at hbg
        have kB := fun w => begin_any s hs k hlt w
        have hflen := flL_len L row
        rcases bg_kind (tl s) k with h0 | h0 | h0 | h0
        · have HI' : Hid (prs (tl s) f (bg (tl s) k).2 (row ++ [s[k]]) (L.map Prod.fst) = R) := by
            show _ = _
            rw [← HI.out, prs_byte (lt_tl hlt) h0, hg]
          rw [h0] at kB
          generalize (bg (tl s) k).2 = b at kB HI' hbg
          have kA : ∀ w1, Below wr.heap.size wr w1 → _ := fun w1 hb1 => addByte_any w1 w.heap.size w.heap.size L row lv rv s[k] (hP.below hb1) (by omega)
          have hge := hP.geR
          have HP := hide' hP
          clear HI h0 hg hP
          go_wp2_with (first | (go_at_call 20; refine (kB _).mono ?_; rintro e w1 ⟨rfl, hb1⟩) | (go_at_call 21; refine (kA _ hb1).mono ?_; rintro e w2 ⟨rfl, ht2, rv2, hp2⟩))
          have hB1 := hB.trans (hb1.mono hB.size)
          exact ⟨⟨b, f, row ++ [s[k]], L, lv, rv2, by omega, by omega, by simp; omega, by omega, rfl, hp2, hB1.trans (ht2.below hB1.size hge), HI'⟩, by simp [intOf]; omega⟩
        · obtain ⟨hb2, hb3⟩ := bg_short (tl s) k h0
          rw [tl_len] at hb3
          have HI' : Hid (prs (tl s) f (k + 2) [] ((flL L row ++ [((vr (pc (tl s) (k + 1) (k + 2)), .slice none 0 0) : Px)]).map Prod.fst) = R) := by
            show _ = _
            rw [← HI.out, prs_short (lt_tl hlt) h0, hb2, List.map_append, flL_fst]
            rfl
          rw [h0, hb2] at kB
          have hx := pc_ext s (k + 1) (k + 2)
          have hxl := pc_len (tl s) (k + 1) (k + 2)
          have kV := fun w => variable_any (s.extract (k + 1) (k + 2)) (by rw [hx, mk_size]; omega) w
          rw [hx] at kV
          have kA : ∀ w1, Below wr.heap.size wr w1 → _ := fun w1 hb1 => add_any w1 w.heap.size w.heap.size L row lv rv (hP.below hb1) (by omega) (by omega) (vr (pc (tl s) (k + 1) (k + 2)), .slice none 0 0) (World.ownsRow_nil _ _ _ _)
          have hpv : ptV (vr (pc (tl s) (k + 1) (k + 2))) (.slice none 0 0) = .agg #[.int .i64 2, .string (mk (pc (tl s) (k + 1) (k + 2))), .string ⟨#[]⟩, .slice none 0 0] := rfl
          simp only [hpv] at kA
          generalize vr (pc (tl s) (k + 1) (k + 2)) = vp at kA HI'
          generalize mk (pc (tl s) (k + 1) (k + 2)) = T at kA kV hx
          have hge := hP.geL
          have HP := hide' hP
          have hkb : (k : Int) + 2 ≤ (s.size : Int) := by omega
          clear HI h0 hg hP hpv hb2 hbg
          go_wp2_with (first | (go_at_call 20; refine (kB _).mono ?_; rintro e w1 ⟨rfl, hb1⟩) | (go_at_call 23; refine (kV _).mono ?_; rintro e w2 ⟨rfl, hb2⟩; have hb12 := hb1.trans (hb2.mono hb1.size)) | (go_at_call 22; refine (kA _ hb12).mono ?_; rintro e w3 ⟨rfl, ht3, lv3, rv3, hp3⟩))
          have hB1 := hB.trans (hb12.mono hB.size)
          exact ⟨⟨k + 2, f, [], flL L row ++ [((vp, .slice none 0 0) : Px)], lv3, rv3, by omega, by omega, by simp, by simp; omega, by go_num, hp3, hB1.trans (ht3.below hB1.size hge), HI'⟩, by simp [intOf]; omega⟩
        · obtain ⟨hb2, hb3⟩ := bg_long (tl s) k h0
          rw [tl_len] at hb3
          have hI0 : prs (tl s) f (bg (tl s) k).2 [] ((flL L row).map Prod.fst ++ [ins (pc (tl s) (k + 2) ((bg (tl s) k).2 - 1))]) = R := by
            rw [← HI.out, prs_long (lt_tl hlt) h0, flL_fst]
          rw [h0] at kB
          obtain ⟨b, hbe⟩ : ∃ b, (bg (tl s) k).2 = b + 1 := ⟨(bg (tl s) k).2 - 1, by omega⟩
          rw [hbe] at kB hI0 hbg hb2 hb3
          rw [Nat.add_sub_cancel] at hI0
          have hx := pc_ext s (k + 2) b
          have hxl := pc_len (tl s) (k + 2) b
          have hxt : tl (s.extract (k + 2) b) = pc (tl s) (k + 2) b := by rw [hx]; exact tl_mk _
          have kI : ∀ w1, Below wr.heap.size wr w1 → _ := fun w1 hb1 => inside_any (s.extract (k + 2) b) (by rw [hx, mk_size]; omega) w1 ((hF.low hF.lt hB).below hb1)
          simp only [hxt] at kI
          generalize hT : s.extract (k + 2) b = T at kI
          have hT' : s.extract (k + 2) b = T := hT
          generalize hip : ins (pc (tl s) (k + 2) b) = ip at kI hI0
          have HI' := hide' hI0
          have kA : ∀ w1, Below wr.heap.size wr w1 → ∀ av, ArgV w1 w.heap.size (ip, av) → _ := fun w1 hb1 av hav => add_any w1 w.heap.size w.heap.size L row lv rv (hP.below hb1) (by omega) (by omega) (ip, av) hav
          have hge := hP.geL
          have hkb : (k : Int) + 2 ≤ (b : Int) := by omega
          have hkc : (b : Int) ≤ (s.size : Int) := by omega
          have HP := hide' hP
          clear HI h0 hg hP hip hI0 hx hxt hbe hT
          go_wp2_with (first | (go_at_call 20; refine (kB _).mono ?_; rintro e w1 ⟨rfl, hb1⟩) | (go_at_call 24; refine (kI _ hb1).mono ?_; rintro e w2 ⟨v2, rfl, ⟨av, rfl, har⟩, hb2'⟩; have hb12 := hb1.trans (hb2'.mono hb1.size); have har2 : ArgV w2 w.heap.size (ip, av) := own_mono har (Nat.le_trans hsz hb1.size)) | (go_at_call 22; refine (kA _ hb12 _ har2).mono ?_; rintro e w3 ⟨rfl, ht3, lv3, rv3, hp3⟩))
          have hB1 := hB.trans (hb12.mono hB.size)
          exact ⟨⟨b + 1, f, [], flL L row ++ [(ip, av)], lv3, rv3, by omega, by omega, by simp, by simp; omega, by go_num, hp3, hB1.trans (ht3.below hB1.size hge), by rw [List.map_append]; exact HI'.out⟩, by simp [intOf]; omega⟩
        · have HR' : Hid (R = none) := by
            show _ = _
            rw [← HI.out, prs_lost (lt_tl hlt) h0]
          rw [h0] at kB
          generalize (bg (tl s) k).2 = b at kB hbg
          clear HI h0 hg hP
          go_wp2_with (go_at_call 20; refine (kB _).mono ?_; rintro e w1 ⟨rfl, hb1⟩)
          go_step3
          exact ⟨rfl, jb_intro (hB.trans (hb1.mono hB.size)) HR'.out⟩
      · obtain ⟨f, rfl⟩ : ∃ f', f = f' + 1 := ⟨f - 1, by omega⟩
        have HR' : Hid (R = some ((flL L row).map Prod.fst)) := by
          show _ = _
          rw [← HI.out, prs_end (by rw [tl_len]; exact hlt), flL_fst]
        have kA := all_any wr w.heap.size w.heap.size L row lv rv hP (by omega) (by omega)
        have hge := hP.geL
        clear HI hP
        go_wp2_with (go_at_call 25; refine kA.mono ?_; rintro e w2 ⟨lv2, rv2, rfl, ht2, hp2, hlo⟩)
        refine ej_ret ?_
        go_ret2
        rw [HR'.out]
        exact ⟨⟨_, rfl, _, rfl, hp2.list, hp2.args⟩, hB.trans (ht2.below hB.size hge)⟩
  · rintro a' w' ⟨hB, hno, hrest⟩
    obtain ⟨u1, u2, u3, u4, u5, u6, u7, u8, u9, u10, u11, u12, u13, u14, u15, u16, u17, u18, u19, u20, u21, u22, u23, u24, u25, u26, u27, u28, u29, u30, u31, u32, u33, u34, u35, u36, u37, u38, u39, u40, u41, u42, u43, u44, u45, u46, u47, rfl⟩ := hrest
    have HNo := hide' hno
    clear hno
    go_wp2
    refine ej_ret ?_
    go_ret2
    rw [HNo.out]
    exact ⟨rfl, hB⟩
end Go.Proofs.YtaemmgllhmjceaaDoor
