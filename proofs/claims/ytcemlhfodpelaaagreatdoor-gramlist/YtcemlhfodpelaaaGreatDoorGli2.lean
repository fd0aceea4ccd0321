/- GramList answers true at every list of texts. -/
import Derived.Test.YtcemlhfodpelaaaGreatDoorZg
namespace Go.Proofs.YtcemlhfodpelaaaGreatDoor
open Go.RowKit Go.Shelf

/-- where the first loop is: j texts are parsed, each one command -/
structure LIv (w1 wr : World) (L : List ByteArray) (b : Bool) (j : Nat) (sv kv : Value) (cs : List Cd) : Prop where
  bel : Below w1.heap.size w1 wr
  len : cs.length = j
  one : ∀ (i : Nat) A c, L[i]? = some A → cs[i]? = some c → One (tl A) c
  kids : ∃ kc, KidsS wr (fun g => w1.heap.size ≤ g) kv kc cs
  s : sv = .string (mk (jn b (L.map tl) j))
  sz : (jn b (L.map tl) j).length ≤ 153 * j
theorem app_two (x : Bs) (A : ByteArray) : mk x ++ A = mk (x ++ tl A) := tl_inj _ _ (by rw [tl_mk]; simp [tl, ByteArray.data_append])
theorem app_10 (x : Bs) : mk x ++ (⟨#[10]⟩ : ByteArray) = mk (x ++ [10]) := tl_inj _ _ (by rw [tl_mk]; simp [tl, ByteArray.data_append])
theorem app_3 (x : Bs) : mk x ++ (⟨#[32, 59, 32]⟩ : ByteArray) = mk (x ++ [32, 59, 32]) := tl_inj _ _ (by rw [tl_mk]; simp [tl, ByteArray.data_append])
theorem at_tl {L : List ByteArray} {j : Nat} {A : ByteArray} (h : L[j]? = some A) : (L.map tl)[j]? = some (tl A) := by rw [List.getElem?_map, h]; rfl
/-- a text more -/
theorem liv_next {w1 w5 : World} {L : List ByteArray} {b : Bool} {j : Nat} {kv kv' : Value} {cs : List Cd} {c : Cd} {A : ByteArray} {wr : World} {sv : Value} (h : LIv w1 wr L b j sv kv cs) (hA : L[j]? = some A) (hb : Below w1.heap.size w1 w5) (ho : One (tl A) c) (hk : ∃ kc, KidsS w5 (fun g => w1.heap.size ≤ g) kv' kc (cs ++ [c])) (hl : (jn b (L.map tl) (j + 1)).length ≤ 153 * (j + 1)) : LIv w1 w5 L b (j + 1) (.string (mk (jn b (L.map tl) (j + 1)))) kv' (cs ++ [c]) := by
  refine ⟨hb, by simp [h.len], fun i B d h1 h2 => ?_, hk, rfl, hl⟩
  by_cases hi : i < cs.length
  · rw [List.getElem?_append_left hi] at h2
    exact h.one i B d h1 h2
  · rw [List.getElem?_append_right (by omega)] at h2
    have hi0 : i - cs.length = 0 := by
      rcases Nat.eq_zero_or_pos (i - cs.length) with h3 | h3
      · exact h3
      · rw [List.getElem?_eq_none (by simp; omega)] at h2; cases h2
    rw [hi0] at h2
    cases (Option.some.inj h2)
    have : i = j := by have := h.len; omega
    subst this
    cases (Option.some.inj (hA.symm.trans h1))
    exact ho
def NoEnds (b : Bool) (L : List ByteArray) (j : Nat) : Prop := b = false → ∀ (i : Nat) A, i < j → L[i]? = some A → ¬ EndsS (tl A)
theorem ends_nil : ¬ EndsS [] := by
  rintro ⟨pre, c, bl, e, _⟩
  have := congrArg List.length e
  simp at this
/-- all the texts, joined, are a list of their commands -/
theorem liv_all {w1 wr : World} {L : List ByteArray} {b : Bool} {sv kv : Value} {cs : List Cd} (h : LIv w1 wr L b L.length sv kv cs) (hl : L.length ≤ 15) (he : b = false → ∀ (i : Nat) A, L[i]? = some A → ¬ EndsS (tl A)) : gramF (jn b (L.map tl) L.length) = .ok cs := by
  have hlen := h.len
  have m1 : ((L.map tl).zip cs).map (·.1) = L.map tl := List.map_fst_zip (by simp [hlen])
  have m2 : ((L.map tl).zip cs).map (·.2) = cs := List.map_snd_zip (by simp [hlen])
  have ho : ∀ p ∈ (L.map tl).zip cs, One p.1 p.2 ∧ (b = false → ¬ EndsS p.1) := fun p hp => by
    obtain ⟨i, hi, rfl⟩ := List.mem_iff_getElem.1 hp
    have hi2 : i < L.length := by simp at hi; omega
    have hi3 : i < cs.length := by omega
    have e : ((L.map tl).zip cs)[i] = (tl L[i], cs[i]) := by simp
    rw [e]
    exact ⟨h.one i _ _ (List.getElem?_eq_getElem hi2) (List.getElem?_eq_getElem hi3), fun hb => he hb i _ (List.getElem?_eq_getElem hi2)⟩
  have hz : ((L.map tl).zip cs).length = L.length := by simp [hlen]
  cases b with
  | true =>
    have := gram_lines ((L.map tl).zip cs) (by omega) fun p hp => (ho p hp).1
    rw [m1, m2] at this
    have e := jn_every (L.map tl)
    rw [List.length_map] at e
    rw [e]
    exact this
  | false =>
    cases hL : (L.map tl).zip cs with
    | nil =>
      rw [hL] at hz m1 m2
      have h0 : L.length = 0 := hz.symm
      rw [h0, jn_zero]
      have := gram_lines [] (by simp) (fun p hp => by cases hp)
      rw [← m2]
      exact this
    | cons p r =>
      rw [hL] at hz m1 m2 ho
      have := gram_semis p r (by simp at hz; omega) fun a ha => ⟨(ho a ha).1, (ho a ha).2 rfl⟩
      have e := jn_all (r.map (·.1)) p.1
      have m1' : p.1 :: r.map (·.1) = L.map tl := m1
      have m2' : p.2 :: r.map (·.2) = cs := m2
      rw [m1', List.length_map] at e
      have hz' : r.length + 1 = L.length := hz
      rw [hz'] at e
      rw [e, ← m2']
      exact this
set_option maxHeartbeats 4000000 in
theorem glist_long (L : List ByteArray) (b : Bool) (v : Value) (w : World) (hG : GloB w) (hE : EtW w) (hv : Lsx w v L) (hl : 15 < L.length) (hl2 : L.length ≤ 9223372036854775807) : Yes 4 #[v, .bool b] w := by
  obtain ⟨a, c, rfl⟩ := hv.form
  have qa := alive_any w hG hE
  have k1 : (15 : Int) < (L.length : Int) := by omega
  clear hG hE hv
  go_enter Tryz.func4, Tryz.ntmps4
  go_wp2_with fail
  refine qa.mono ?_
  rintro e w1 ⟨rfl, hb1⟩
  have HB := hide' hb1
  clear hb1
  go_wp2_with fail
  go_ret
  exact ⟨rfl, HB.out⟩
set_option maxRecDepth 100000 in
set_option maxHeartbeats 8000000 in
theorem glist_short (L : List ByteArray) (b : Bool) (a : Option Addr) (c : Nat) (w : World) (hG : GloB w) (hE : EtW w) (hv : Lsx w (.slice a L.length c) L) (hl : L.length ≤ 15) : Yes 4 #[.slice a L.length c, .bool b] w := by
  have qa := alive_any w hG hE
  have k1 : ¬ (15 : Int) < (L.length : Int) := by omega
  have HG := hide' (And.intro hG hE)
  clear hG hE
  go_enter Tryz.func4, Tryz.ntmps4
  go_wp2_with fail
  refine qa.mono ?_
  rintro e w1 ⟨rfl, hb1⟩
  clear qa
  have HB := hide' hb1
  clear hb1
  dsimp only
  go_wp2_with fail
  go_loopw [6, 7, 8] (fun sv kv i wr => ∃ j cs, j ≤ L.length ∧ i = .int .i64 (j : Nat) ∧ LIv w1 wr L b j sv kv cs) (fun _ _ i _ => L.length - (intOf i).toNat)
  case atStart => exact ⟨0, [], Nat.zero_le _, rfl, Below.refl _ _, rfl, (fun i A c h1 h2 => by simp at h2), ⟨[], KidsS.nil _ _⟩, by rw [jn_zero], by rw [jn_zero]; simp⟩
  case round =>
    obtain ⟨j, cs, hj, rfl, hI⟩ := hrel
    by_cases hjl : j < L.length
    · obtain ⟨A, hA⟩ : ∃ A, L[j]? = some A := ⟨_, List.getElem?_eq_getElem hjl⟩
      obtain ⟨g, o, c', hc', hcell⟩ := hv.at_ (by omega)
      cases hc'
      have hBw : Below w.heap.size w wr := HB.out.trans (hI.bel.mono HB.out.size)
      have hx := hcell wr hBw j A hA
      have k2 : (j : Int) < L.length := by omega
      have HI := hide' hI
      by_cases h150 : 150 < A.size
      · have k3 : (150 : Int) < (A.size : Int) := by omega
        have HE := hide' hBw
        clear hI HI hcell hv HB HG hBw hA
        go_wp2
        go_ret
        exact ⟨rfl, HE.out⟩
      · have k3 : ¬ (150 : Int) < (A.size : Int) := by omega
        have HX := hide' hcell
        have HV := hide' hv
        have HA := hide' hA
        have HW := hide' hBw
        clear hI hcell hv hBw hA
        go_wp2
        go_loopw [9] (fun i wq => ∃ k : Nat, k ≤ A.size ∧ i = .int .i64 k ∧ Hid (∀ i, i < k → (tl A).getD i 0 ≠ 35 ∧ (tl A).getD i 0 ≠ 92) ∧ wq = wr) (fun i _ => A.size - (intOf i).toNat)
        case atStart => exact ⟨0, Nat.zero_le _, rfl, (fun i h => by omega), rfl⟩
        case round =>
          obtain ⟨k, hk, rfl, HK, rfl⟩ := hrel
          by_cases hkl : k < A.size
          · have hg := getD_at A k hkl
            have k4 : (k : Int) < (A.size : Int) := by omega
            by_cases h1 : A[k] = 35
            · have k5 : ((A[k].toNat : Int) == 35) = true := beq_yes A[k] 35 35 rfl h1
              have k5' : (A[k].toNat : Int) = 35 := by simpa using k5
              clear HK h1 hg HI HX HV HA
              go_wp2
              go_ret
              exact ⟨rfl, HW.out⟩
            · have k5 : ((A[k].toNat : Int) == 35) = false := beq_no A[k] 35 35 rfl h1
              have k5' : ¬ (A[k].toNat : Int) = 35 := by simpa using k5
              by_cases h2 : A[k] = 92
              · have k6 : ((A[k].toNat : Int) == 92) = true := beq_yes A[k] 92 92 rfl h2
                have k6' : (A[k].toNat : Int) = 92 := by simpa using k6
                clear HK h1 h2 hg HI HX HV HA
                go_wp2
                go_ret
                exact ⟨rfl, HW.out⟩
              · have k6 : ((A[k].toNat : Int) == 92) = false := beq_no A[k] 92 92 rfl h2
                have k6' : ¬ (A[k].toNat : Int) = 92 := by simpa using k6
                have HN : Hid (∀ i, i < k + 1 → (tl A).getD i 0 ≠ 35 ∧ (tl A).getD i 0 ≠ 92) := fun i hi => by
                  by_cases e : i = k
                  · subst e; rw [hg]; exact ⟨h1, h2⟩
                  · exact HK.out i (by omega)
                clear HK h1 h2 hg HI HX HV HA
                go_wp2
                exact ⟨⟨k + 1, by omega, by simp, HN, by trivial⟩, by simp [intOf]; omega⟩
          · obtain rfl : k = A.size := by omega
            have q := parse_form A wr ((HG.out.1.below HW.out)) (HG.out.2.below HW.out)
            have qn := fun n w => (num_any n w).mono fun e w' h => And.intro h.1 h.2.symm
            go_wp2_with fail
            refine q.mono ?_
            rintro e w2 ⟨hb2, k9, ka, kn, kc, n9, rfl, hok, herr⟩
            clear q
            obtain ⟨w3, hw3⟩ : ∃ w3, w3 = w2.alloc (.cells #[.int .i64 k9, .bool false, .slice none 0 0, .slice none 0 0, .slice none 0 0, .slice ka kn kc, .slice none 0 0] 28) := ⟨_, rfl⟩
            have hb3 : Below w2.heap.size w2 w3 := by rw [hw3]; exact (Below.refl _ _).alloc (Nat.le_refl _) _
            have zb : w3.heap[w2.heap.size]? = some (.cells #[.int .i64 k9, .bool false, .slice none 0 0, .slice none 0 0, .slice none 0 0, .slice ka kn kc, .slice none 0 0] 28 (0, 0)) := by rw [hw3]; exact heap_alloc_new w2 _
            have o5 := (cells7 zb).2.2.2.2.2.1
            have hB3 : Below wr.heap.size wr w3 := hb2.trans (hb3.mono hb2.size)
            have HW3 := hide' hw3
            have H3 := hide' hB3
            have Hb3 := hide' hb3
            have Hb2 := hide' hb2
            clear hw3 hb2 hb3 hB3 zb
            cases hR : gramF (tl A) with
            | none => exact absurd hR (gram_some _)
            | err m =>
              have hn9 := herr m hR
              have hm := gram_err hR
              have k7 : ((n9 : Int) == 0) = false := beq_eq_false_iff_ne.2 (by omega)
              have k7' : ¬ (n9 : Int) = 0 := by omega
              clear hok herr hR HI HX HV HA HK
              dsimp only
              go_upto_region 17 with fail
              rw [← HW3.out]
              go_wp2_with (go_at_call 11; refine (qn _ _).mono ?_; rintro e w' ⟨rfl, rfl⟩)
              go_ret
              exact ⟨rfl, HW.out.trans (H3.out.mono HW.out.size)⟩
            | ok l =>
              obtain ⟨rfl, rfl, hkn, ks, hK⟩ := hok l hR
              by_cases hl1 : l.length = 1
              · obtain ⟨cm, rfl⟩ := List.length_eq_one_iff.1 hl1
                obtain rfl : kn = 1 := hkn
                have hOne : One (tl A) cm := ⟨fun b hb => by
                  obtain ⟨i, hi, rfl⟩ := List.mem_iff_getElem.1 hb
                  have := (HK.out i (by rw [← tl_len]; exact hi)).1
                  rwa [List.getD_eq_getElem?_getD, List.getElem?_eq_getElem hi] at this, fun b hb => by
                  obtain ⟨i, hi, rfl⟩ := List.mem_iff_getElem.1 hb
                  have := (HK.out i (by rw [← tl_len]; exact hi)).2
                  rwa [List.getD_eq_getElem?_getD, List.getElem?_eq_getElem hi] at this, by rw [tl_len]; omega, hR⟩
                obtain ⟨hbel, hlen, hone, ⟨kc0, hK0⟩, hs, hsz⟩ := HI.out
                subst hs
                obtain ⟨ka0, kcap0, hkv⟩ := hK0.row.form
                rw [hlen] at hkv
                subst hkv
                obtain ⟨g2, cap2, k, nt, a1, a2, a3, a4, a5, n1, n2, n3, n4, n5, c1, c2, c3, c4, c5, hkv, hgl, hc, d0, d1, d2, d3, d4, d5, d6⟩ := kid_one hK
                cases hkv
                have x0 := (Hb3.out.cell (p := ⟨g2, 0, none⟩) hgl).trans d0
                have x1 := (Hb3.out.cell (p := ⟨g2, 1, none⟩) hgl).trans d1
                have x2 := (Hb3.out.cell (p := ⟨g2, 2, none⟩) hgl).trans d2
                have x3 := (Hb3.out.cell (p := ⟨g2, 3, none⟩) hgl).trans d3
                have x4 := (Hb3.out.cell (p := ⟨g2, 4, none⟩) hgl).trans d4
                have x5 := (Hb3.out.cell (p := ⟨g2, 5, none⟩) hgl).trans d5
                have x6 := (Hb3.out.cell (p := ⟨g2, 6, none⟩) hgl).trans d6
                have hb4 : Below w3.heap.size w3 (w3.alloc (.cells #[.int .i64 k, .bool nt, .slice a1 n1 c1, .slice a2 n2 c2, .slice a3 n3 c3, .slice a4 n4 c4, .slice a5 n5 c5] 28)) := (Below.refl _ _).alloc (Nat.le_refl _) _
                have hs12 := hbel.size
                have hs23 := Hb2.out.size
                have hs34 := H3.out.size
                have hK4 : KidsS (w3.alloc (.cells #[.int .i64 k, .bool nt, .slice a1 n1 c1, .slice a2 n2 c2, .slice a3 n3 c3, .slice a4 n4 c4, .slice a5 n5 c5] 28)) (fun g => w1.heap.size ≤ g) (.slice ka0 j kcap0) kc0 cs := (hK0.kept fun g' _ hl => H3.out.block g' hl).kept fun g' _ hl => hb4.block g' hl
                have hc4 : CdAt (w3.alloc (.cells #[.int .i64 k, .bool nt, .slice a1 n1 c1, .slice a2 n2 c2, .slice a3 n3 c3, .slice a4 n4 c4, .slice a5 n5 c5] 28)) (fun g => w1.heap.size ≤ g ∧ (Value.slice ka0 j kcap0).ownBlock ≠ some g) [.int .i64 k, .bool nt, .slice a1 n1 c1, .slice a2 n2 c2, .slice a3 n3 c3, .slice a4 n4 c4, .slice a5 n5 c5] cm := ((hc.kept fun g' _ hl => Hb3.out.block g' hl).kept fun g' _ hl => hb4.block g' hl).mono fun g' h1 _ => ⟨by omega, fun e => by have := (hK0.lt g' e).2; omega⟩
                have hown := hK4.row.own
                rw [hlen] at hown
                have hnew : ∀ (j : Nat) u, ([.int .i64 k, .bool nt, .slice a1 n1 c1, .slice a2 n2 c2, .slice a3 n3 c3, .slice a4 n4 c4, .slice a5 n5 c5] : List Value)[j]? = some u → (w3.alloc (.cells #[.int .i64 k, .bool nt, .slice a1 n1 c1, .slice a2 n2 c2, .slice a3 n3 c3, .slice a4 n4 c4, .slice a5 n5 c5] 28)).cell? ((⟨w3.heap.size, 0, none⟩ : Addr).add j) = some u := fun j u hj => by rw [Addr.add_lit, Nat.zero_add, Lib.cell_of_heap (heap_alloc_new w3 _)]; simpa using hj
                have HC := hide' (And.intro hbel (And.intro hlen (And.intro hK4 (And.intro hc4 (And.intro hOne hb4)))))
                clear hok herr hR HV HK hK hl1 d0 d1 d2 d3 d4 d5 d6 hbel hone hK0 hc hOne hgl hK4 hc4 hb4 hlen
                obtain ⟨inf, hi, hz0, hz1, hz2⟩ := info_parts infoCmd
                dsimp only
                go_upto_region 17 with fail
                rw [← HW3.out]
                go_upto_region 19 with (go_at_call 11; refine (qn _ _).mono ?_; rintro e w' ⟨rfl, rfl⟩)
                go_upto_region 20 with (at_builtin; refine wpList_plain rfl fun _ hK => ?_; refine wp_append_lies _ _ _ 25 rfl 0 28 inf _ 7 136 Tryz.underlying25 hi hz0 hz1 hz2 rfl (by decide) (.slice ka0 j kcap0) j _ rfl hown ⟨w3.heap.size, 0, none⟩ 1 1 [.int .i64 k, .bool nt, .slice a1 n1 c1, .slice a2 n2 c2, .slice a3 n3 c3, .slice a4 n4 c4, .slice a5 n5 c5] rfl rfl hnew (by simp [Value.oneCell']) (by decide) (by unfold maxLen; omega) (by omega) (Nat.zero_le _) _ rfl ?_; intro g5 cap5 w5 ho hg hat _; refine hK _ _ ?_)
                obtain ⟨hbel, hlen, hK4, hc4, hOne, hb4⟩ := HC.out
                rw [← hlen] at ho
                have hK5 := hK4.push hc4 (by show w1.heap.size ≤ (w3.alloc _).heap.size; have := hb4.size; omega) ho hg hat
                have hB5 : Below w1.heap.size w1 w5 := by
                  have h13 : Below w1.heap.size w1 (w3.alloc (.cells #[.int .i64 k, .bool nt, .slice a1 n1 c1, .slice a2 n2 c2, .slice a3 n3 c3, .slice a4 n4 c4, .slice a5 n5 c5] 28)) := (hbel.trans (H3.out.mono hbel.size)).trans (hb4.mono (by omega))
                  refine ⟨hg.os.trans h13.os, hg.tape.trans h13.tape, hg.output.trans h13.output, Nat.le_trans h13.size hg.size, fun k hk => (hg.block k (Nat.lt_of_lt_of_le hk h13.size) fun e => ?_).trans (h13.block k hk)⟩
                  have := (hK4.lt k e.symm).1
                  omega
                rw [hlen] at hK5
                have hx5 := HX.out w5 (HB.out.trans (hB5.mono HB.out.size)) j A HA.out
                have hz1' : (mk (jn b (L.map tl) j)).size = (jn b (L.map tl) j).length := mk_size _
                have hz2' : (mk (jn b (L.map tl) j)).size ≤ 3000 := by rw [hz1']; omega
                have hz3' : (mk (jn b (L.map tl) j) ++ A).size ≤ 4000 := by rw [ByteArray.size_append]; omega
                have HK5 := hide' hK5
                have HB5 := hide' hB5
                have HO := hide' hOne
                have HSZ := hide' hsz
                clear hbel hK4 hc4 hOne hb4 ho hg hat hK5 hB5 hown hnew hi hz0 hz1 hz2 x0 x1 x2 x3 x4 x5 x6 hz1' HC hx hlen hsz
                cases b with
                | true =>
                  have HJ : Hid (mk (jn true (L.map tl) j) ++ A ++ ⟨#[10]⟩ = mk (jn true (L.map tl) (j + 1))) := by
                    show _ = _
                    rw [app_two (jn true (L.map tl) j) A, app_10, jn_line (at_tl HA.out)]
                  have HL : Hid ((jn true (L.map tl) (j + 1)).length ≤ 153 * (j + 1)) := by
                    show _ ≤ _
                    have := HSZ.out
                    rw [jn_line (at_tl HA.out)]
                    simp only [List.length_append, tl_len, List.length_cons, List.length_nil]
                    omega
                  clear HSZ
                  generalize mk (jn true (L.map tl) j) = XS at *
                  go_wp2
                  exact ⟨⟨j + 1, cs ++ [cm], by omega, by simp, by rw [HJ.out]; exact liv_next HI.out HA.out HB5.out HO.out ⟨_, HK5.out⟩ HL.out⟩, by simp [intOf]; omega⟩
                | false =>
                  have hll : (L.map tl).length = L.length := List.length_map ..
                  by_cases hjn : j + 1 < L.length
                  · have k8 : (j : Int) + 1 < L.length := by omega
                    have hjn' : j + 1 < (L.map tl).length := by omega
                    have HJ : Hid (mk (jn false (L.map tl) j) ++ A ++ ⟨#[32, 59, 32]⟩ = mk (jn false (L.map tl) (j + 1))) := by
                      show _ = _
                      rw [app_two (jn false (L.map tl) j) A, app_3, jn_semi (at_tl HA.out) hjn']
                    have HL : Hid ((jn false (L.map tl) (j + 1)).length ≤ 153 * (j + 1)) := by
                      show _ ≤ _
                      have := HSZ.out
                      rw [jn_semi (at_tl HA.out) hjn']
                      simp only [List.length_append, tl_len, List.length_cons, List.length_nil]
                      omega
                    clear HSZ
                    generalize mk (jn false (L.map tl) j) = XS at *
                    go_wp2
                    exact ⟨⟨j + 1, cs ++ [cm], by omega, by simp, by rw [HJ.out]; exact liv_next HI.out HA.out HB5.out HO.out ⟨_, HK5.out⟩ HL.out⟩, by simp [intOf]; omega⟩
                  · have k8 : ¬ (j : Int) + 1 < L.length := by omega
                    have hjn' : ¬ j + 1 < (L.map tl).length := by omega
                    have HJ : Hid (mk (jn false (L.map tl) j) ++ A = mk (jn false (L.map tl) (j + 1))) := by
                      show _ = _
                      rw [app_two (jn false (L.map tl) j) A, jn_last (at_tl HA.out) hjn']
                    have HL : Hid ((jn false (L.map tl) (j + 1)).length ≤ 153 * (j + 1)) := by
                      show _ ≤ _
                      have := HSZ.out
                      rw [jn_last (at_tl HA.out) hjn']
                      simp only [List.length_append, tl_len]
                      omega
                    clear HSZ
                    generalize mk (jn false (L.map tl) j) = XS at *
                    go_wp2
                    exact ⟨⟨j + 1, cs ++ [cm], by omega, by simp, by rw [HJ.out]; exact liv_next HI.out HA.out HB5.out HO.out ⟨_, HK5.out⟩ HL.out⟩, by simp [intOf]; omega⟩
              · have k7 : ((l.length : Int) == 1) = false := beq_eq_false_iff_ne.2 (by omega)
                have k7' : ¬ (l.length : Int) = 1 := by omega
                rw [← hkn] at k7 k7'
                clear hok herr hR HI HX HV HA HK hK hl1 hkn
                dsimp only
                go_upto_region 17 with fail
                rw [← HW3.out]
                go_wp2_with (go_at_call 11; refine (qn _ _).mono ?_; rintro e w' ⟨rfl, rfl⟩)
                go_ret
                exact ⟨rfl, HW.out.trans (H3.out.mono HW.out.size)⟩
    · obtain rfl : j = L.length := by omega
      obtain ⟨kc0, hK0⟩ := hI.kids
      have hlen := hI.len
      have hs := hI.s
      subst hs
      obtain ⟨ka0, kcap0, hkv⟩ := hK0.row.form
      rw [hlen] at hkv
      subst hkv
      have hBw : Below w.heap.size w wr := HB.out.trans (hI.bel.mono HB.out.size)
      have q := parse_form (mk (jn b (L.map tl) L.length)) wr (HG.out.1.below hBw) (HG.out.2.below hBw)
      rw [tl_mk] at q
      have qn := fun n w => (num_any n w).mono fun e w' h => And.intro h.1 h.2.symm
      have HI := hide' hI
      have HK0 := hide' hK0
      have HW := hide' hBw
      clear hI hK0 hBw hlen
      go_wp2_with fail
      refine q.mono ?_
      rintro e w2 ⟨hb2, k9, ka, kn, kc, n9, rfl, hok, herr⟩
      clear q
      obtain ⟨w3, hw3⟩ : ∃ w3, w3 = w2.alloc (.cells #[.int .i64 k9, .bool false, .slice none 0 0, .slice none 0 0, .slice none 0 0, .slice ka kn kc, .slice none 0 0] 28) := ⟨_, rfl⟩
      have hb3 : Below w2.heap.size w2 w3 := by rw [hw3]; exact (Below.refl _ _).alloc (Nat.le_refl _) _
      have zb : w3.heap[w2.heap.size]? = some (.cells #[.int .i64 k9, .bool false, .slice none 0 0, .slice none 0 0, .slice none 0 0, .slice ka kn kc, .slice none 0 0] 28 (0, 0)) := by rw [hw3]; exact heap_alloc_new w2 _
      have o0 := (cells7 zb).1
      have o5 := (cells7 zb).2.2.2.2.2.1
      have hB3 : Below wr.heap.size wr w3 := hb2.trans (hb3.mono hb2.size)
      have HW3 := hide' hw3
      have H3 := hide' hB3
      have Hb3 := hide' hb3
      have HE := hide' (HW.out.trans (hB3.mono HW.out.size))
      have HOK := hide' hok
      clear hw3 hb2 hb3 hB3 zb hok herr
      dsimp only
      go_upto_region 26 with fail
      rw [← HW3.out]
      clear HW3
      go_wp2_with fail
      go_loopw [14] (fun i wq => ∃ j : Nat, j ≤ L.length ∧ i = .int .i64 j ∧ NoEnds b L j ∧ wq = w3) (fun i _ => L.length - (intOf i).toNat)
      case atStart => exact ⟨0, Nat.zero_le _, rfl, (fun _ i A h => by omega), rfl⟩
      case round =>
        obtain ⟨j, hj, rfl, HN, rfl⟩ := hrel
        by_cases hjl : j < L.length
        · obtain ⟨A, hA⟩ : ∃ A, L[j]? = some A := ⟨_, List.getElem?_eq_getElem hjl⟩
          obtain ⟨g, o, c', hc', hcell⟩ := hv.at_ (by omega)
          cases hc'
          have hx := hcell wr HE.out j A hA
          have k2 : (j : Int) < L.length := by omega
          have hA150 : A.size ≤ 150 := by
            obtain ⟨cc, hcc⟩ : ∃ cc, cs[j]? = some cc := ⟨_, List.getElem?_eq_getElem (by have := HI.out.len; omega)⟩
            have := (HI.out.one j A cc hA hcc).short
            rw [tl_len] at this
            exact this
          have hnext : ¬ EndsS (tl A) → NoEnds b L (j + 1) := fun hn hb i B hi hB => by
            by_cases e : i = j
            · subst e
              cases (Option.some.inj (hA.symm.trans hB))
              exact hn
            · exact HN hb i B (by omega) hB
          have hnext' : b = true → NoEnds b L (j + 1) := fun hb hb' => by rw [hb] at hb'; cases hb'
          clear HN hcell hA HG HI HK0 HOK
          cases b with
          | true =>
            have HT := hnext' rfl
            clear hnext hnext'
            go_wp2
            exact ⟨⟨j + 1, by omega, by simp, HT, by trivial⟩, by simp [intOf]; omega⟩
          | false =>
            by_cases h0 : A.size = 0
            · have HT := hnext (by
                have : tl A = [] := List.length_eq_zero_iff.1 (by rw [tl_len]; exact h0)
                rw [this]
                exact ends_nil)
              have k3 : ¬ (0 : Int) < (A.size : Int) := by omega
              clear hnext hnext'
              go_wp2
              exact ⟨⟨j + 1, by omega, by simp, HT, by trivial⟩, by simp [intOf]; omega⟩
            · have k3 : (0 : Int) < (A.size : Int) := by omega
              have qe := lends_any A wr (by omega)
              go_wp2_with fail
              refine qe.mono ?_
              rintro e w' ⟨rfl, eb, rfl, heb⟩
              cases eb with
              | true =>
                clear hnext hnext' qe heb
                dsimp only
                go_wp2_with fail
                go_ret
                exact ⟨rfl, HE.out⟩
              | false =>
                have HT := hnext (heb rfl)
                clear hnext hnext' qe heb
                dsimp only
                go_wp2_with fail
                exact ⟨⟨j + 1, by omega, by simp, HT, by trivial⟩, by simp [intOf]; omega⟩
        · obtain rfl : j = L.length := by omega
          have hR := liv_all HI.out hl fun hb i A hi => HN hb i A (List.getElem?_eq_some_iff.1 hi).1 hi
          obtain ⟨rfl, rfl, hkn, ks, hK⟩ := HOK.out cs hR
          have hlen := HI.out.len
          have hkn' : kn = L.length := hkn.trans hlen
          subst hkn'
          have qs := same_rows (hK.kept fun g' _ hl => Hb3.out.block g' hl) (HK0.out.kept fun g' _ hl => H3.out.block g' hl)
          clear hR hK HN HI HK0 HOK HG hkn hlen
          go_wp2_with (go_at_call 11; refine (qn _ _).mono ?_; rintro e w' ⟨rfl, rfl⟩)
          refine qs.mono ?_
          rintro e w' ⟨rfl, hb9⟩
          have HF := hide' (HE.out.trans (hb9.mono HE.out.size))
          clear hb9 qs qn
          dsimp only
          go_wp2_with fail
          go_ret
          exact ⟨rfl, HF.out⟩
end Go.Proofs.YtcemlhfodpelaaaGreatDoor
