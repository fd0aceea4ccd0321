/- The law RefsPlain answers true. -/
import Derived.Test.YtaemmgllhmjceaaDoorAlive
import Derived.Test.YtaemmgllhmjceaaDoorPp
namespace Go.Proofs.YtaemmgllhmjceaaDoor
open Go.RowKit

/-- what the law lets stand in its i-th text -/
def okB (i : Nat) (c : UInt8) : Bool := !(c == 36) && !(i == 2 && (c == 40 || c == 41 || c == 32 || c == 9 || c == 10))
def Fine (i : Nat) (s : ByteArray) (k : Nat) : Prop := ∀ j (h : j < s.size), j < k → okB i s[j] = true
theorem fine_all {i : Nat} {s : ByteArray} (h : Fine i s s.size) : ∀ c ∈ tl s, okB i c = true := fun c hc => by
  obtain ⟨j, hj, e⟩ := List.mem_iff_getElem.1 hc
  have hj' : j < s.size := by rw [tl_len] at hj; exact hj
  have := h j hj' hj'
  rw [← e]
  exact this
theorem fine_no {i : Nat} {s : ByteArray} (h : Fine i s s.size) : ∀ c ∈ tl s, ¬ c = 36 := fun c hc e => by
  have := fine_all h c hc
  rw [e] at this
  simp [okB] at this
theorem fine_nmd {s : ByteArray} (h : Fine 2 s s.size) : Nmd (tl s) := fun d hd => by
  have := fine_all h d hd
  unfold okB at this
  simp only [beq_self_eq_true, Bool.true_and, Bool.and_eq_true, Bool.not_eq_true', beq_eq_false_iff_ne, Bool.or_eq_false_iff] at this
  obtain ⟨h0, ⟨⟨⟨h1, h2⟩, h3⟩, h4⟩, h5⟩ := this
  refine ⟨h0, h1, h2, ?_⟩
  cases hb : bl d with
  | false => rfl
  | true =>
    rcases bl_yes d hb with rfl | rfl | rfl
    · exact absurd rfl h3
    · exact absurd rfl h4
    · exact absurd rfl h5
theorem tl_app (a b : ByteArray) : tl (a ++ b) = tl a ++ tl b := by
  unfold tl
  simp [ByteArray.data_append]
/-- the three texts -/
def tx3 (a b n : ByteArray) (i : Nat) : ByteArray := if i = 0 then a else if i = 1 then b else n
structure L3At (w : World) (g : Nat) (a b n : ByteArray) : Prop where
  lt : g < w.heap.size
  c : ∀ i, i < 3 → w.cell? ⟨g, i, none⟩ = some (.string (tx3 a b n i))
theorem l3_new (w : World) (a b n : ByteArray) : L3At (w.alloc (.cells #[.string a, .string b, .string n] 9)) w.heap.size a b n := by
  refine ⟨by simp, fun i hi => ?_⟩
  rw [Lib.cell_of_heap (heap_alloc_new w _)]
  match i, hi with
  | 0, _ => rfl
  | 1, _ => rfl
  | 2, _ => rfl
/-- the end of the law: the texts are fine -/
def PlR (w : World) (e : Ending) (w' : World) : Prop := e = .returned (.bool true) ∧ Below w.heap.size w w'
set_option maxRecDepth 100000 in
set_option maxHeartbeats 8000000 in
theorem lplain_any (a b n : ByteArray) (w : World) (hF : FnsAt w 0) : Calls Tryd.prog 6 #[.string a, .string b, .string n] w (PlR w) := by
  have k1 := alive_any w hF
  go_enter Tryd.func6, Tryd.ntmps6
  go_upto_region 2 with (go_at_call 7; refine k1.mono ?_; rintro e w1 ⟨rfl, hb1⟩)
  clear k1
  have hl3 := l3_new w1 a b n
  have hB1 : Below w.heap.size w (w1.alloc (.cells #[.string a, .string b, .string n] 9)) := hb1.alloc hb1.size _
  generalize hW2 : w1.alloc (.cells #[.string a, .string b, .string n] 9) = W2 at hl3 hB1
  have HW2 := hide' hW2
  clear hW2
  go_wp2
  rw [HW2.out]
  go_loopw [9] (fun i wr => ∃ k : Nat, k ≤ 3 ∧ i = .int .i64 k ∧ wr = W2 ∧ Hid (∀ j, j < k → (tx3 a b n j).size ≤ 1000 ∧ Fine j (tx3 a b n j) (tx3 a b n j).size)) (fun i _ => 3 - (intOf i).toNat)
  case atStart => exact ⟨0, Nat.zero_le _, rfl, rfl, fun j hj => absurd hj (Nat.not_lt_zero j)⟩
  case round =>
    obtain ⟨k, hk, rfl, hwr0, HI⟩ := hrel
    obtain rfl := hwr0.symm
    clear HW2
    by_cases hlt : k < 3
    · have ct := hl3.c k hlt
      obtain ⟨t, ht⟩ : ∃ t, t = tx3 a b n k := ⟨_, rfl⟩
      rw [← ht] at ct
      have HT := hide' ht
      clear ht
      by_cases hsz : t.size ≤ 1000
      · have dz : decide ((1000 : Int) < (t.size : Int)) = false := decide_eq_false (by omega)
        go_wp2
        go_loopw [10] (fun i wr => ∃ m : Nat, m ≤ t.size ∧ i = .int .i64 m ∧ wr = W2 ∧ Hid (Fine k t m)) (fun i _ => t.size - (intOf i).toNat)
        case atStart => exact ⟨0, Nat.zero_le _, rfl, rfl, fun j _ hj => absurd hj (Nat.not_lt_zero j)⟩
        case round =>
          obtain ⟨m, hm, rfl, hwr, HJ⟩ := hrel
          obtain rfl := hwr.symm
          by_cases hml : m < t.size
          · skip
            obtain ⟨c, hcm⟩ : ∃ c, c = t[m] := ⟨_, rfl⟩
            have hcm' : t[m] = c := hcm.symm
            by_cases hc : c = 36
            · have q36 : ((c.toNat : Int) == 36) = true := beq_yes _ 36 36 rfl hc
              clear hc HJ hcm
              go_wp2
              go_ret
              exact ⟨rfl, hB1⟩
            · have q36 : ((c.toNat : Int) == 36) = false := beq_no _ 36 36 rfl hc
              by_cases hk2 : k = 2
              · have qk : ((k : Int) == 2) = true := by rw [hk2]; rfl
                by_cases hc40 : c = 40
                · have q40 : ((c.toNat : Int) == 40) = true := beq_yes _ 40 40 rfl hc40
                  clear hc hk2 HJ hcm
                  go_wp2
                  go_ret
                  exact ⟨rfl, hB1⟩
                have q40 : ((c.toNat : Int) == 40) = false := beq_no _ 40 40 rfl hc40
                by_cases hc41 : c = 41
                · have q41 : ((c.toNat : Int) == 41) = true := beq_yes _ 41 41 rfl hc41
                  clear hc hk2 HJ hcm
                  go_wp2
                  go_ret
                  exact ⟨rfl, hB1⟩
                have q41 : ((c.toNat : Int) == 41) = false := beq_no _ 41 41 rfl hc41
                by_cases hc32 : c = 32
                · have q32 : ((c.toNat : Int) == 32) = true := beq_yes _ 32 32 rfl hc32
                  clear hc hk2 HJ hcm
                  go_wp2
                  go_ret
                  exact ⟨rfl, hB1⟩
                have q32 : ((c.toNat : Int) == 32) = false := beq_no _ 32 32 rfl hc32
                by_cases hc9 : c = 9
                · have q9 : ((c.toNat : Int) == 9) = true := beq_yes _ 9 9 rfl hc9
                  clear hc hk2 HJ hcm
                  go_wp2
                  go_ret
                  exact ⟨rfl, hB1⟩
                have q9 : ((c.toNat : Int) == 9) = false := beq_no _ 9 9 rfl hc9
                by_cases hc10 : c = 10
                · have q10 : ((c.toNat : Int) == 10) = true := beq_yes _ 10 10 rfl hc10
                  clear hc hk2 HJ hcm
                  go_wp2
                  go_ret
                  exact ⟨rfl, hB1⟩
                have q10 : ((c.toNat : Int) == 10) = false := beq_no _ 10 10 rfl hc10
                have HI' : Hid (Fine k t (m + 1)) := fun j hj hjm => by
                  by_cases e : j = m
                  · subst e
                    rw [← hcm]
                    simp [okB, hc, hc40, hc41, hc32, hc9, hc10]
                  · exact HJ.out j hj (by omega)
                clear hc hk2 HJ hcm
                go_wp2
                exact ⟨⟨m + 1, by omega, by go_num, trivial, HI'⟩, by simp [intOf]; omega⟩
              · have qk : ((k : Int) == 2) = false := beq_eq_false_iff_ne.2 (by omega)
                have HI' : Hid (Fine k t (m + 1)) := fun j hj hjm => by
                  by_cases e : j = m
                  · subst e
                    rw [← hcm]
                    simp [okB, hc, hk2]
                  · exact HJ.out j hj (by omega)
                clear hc hk2 HJ hcm
                go_wp2
                exact ⟨⟨m + 1, by omega, by go_num, trivial, HI'⟩, by simp [intOf]; omega⟩
          · obtain rfl : m = t.size := by omega
            have HI' : Hid (∀ j, j < k + 1 → (tx3 a b n j).size ≤ 1000 ∧ Fine j (tx3 a b n j) (tx3 a b n j).size) := fun j hj => by
              by_cases e : j = k
              · subst e
                rw [← HT.out]
                exact ⟨hsz, HJ.out⟩
              · exact HI.out j (by omega)
            clear HJ HI
            go_wp2
            exact ⟨⟨k + 1, by omega, by go_num, trivial, HI'⟩, by simp [intOf]; omega⟩
      · have dz : decide ((1000 : Int) < (t.size : Int)) = true := decide_eq_true (by omega)
        go_wp2
        go_ret
        exact ⟨rfl, hB1⟩
    · obtain rfl : k = 3 := by omega
      have f0 := HI.out 0 (by omega)
      have f1 := HI.out 1 (by omega)
      have f2 := HI.out 2 (by omega)
      have hsa : a.size ≤ 1000 := f0.1
      have hsb : b.size ≤ 1000 := f1.1
      have hsn : n.size ≤ 1000 := f2.1
      have ha1 : ∀ c ∈ tl a, ¬ c = 36 := fine_no (i := 0) f0.2
      have hb1' : ∀ c ∈ tl b, ¬ c = 36 := fine_no (i := 1) f1.2
      have hn1 : Nmd (tl n) := fine_nmd f2.2
      clear f0 f1 f2 HI hl3
      by_cases hae : tl a = []
      · have d0 : a.toList.isEmpty = true := by rw [Lib.toList_data]; unfold tl at hae; rw [hae]; rfl
        have d0' : (a.toList == []) = true := by rw [Lib.toList_data]; unfold tl at hae; rw [hae]; rfl
        go_wp2
        go_ret
        exact ⟨rfl, hB1⟩
      · have d0 : a.toList.isEmpty = false := by rw [Lib.toList_data]; unfold tl at hae; cases h : a.data.toList with | nil => exact absurd h hae | cons _ _ => rfl
        by_cases hbe : tl b = []
        · have d1 : b.toList.isEmpty = true := by rw [Lib.toList_data]; unfold tl at hbe; rw [hbe]; rfl
          go_wp2
          go_ret
          exact ⟨rfl, hB1⟩
        · have d1 : b.toList.isEmpty = false := by rw [Lib.toList_data]; unfold tl at hbe; cases h : b.data.toList with | nil => exact absurd h hbe | cons _ _ => rfl
          have e1 : tl (a ++ ⟨#[36, 40]⟩ ++ n ++ ⟨#[41]⟩ ++ b) = tl a ++ [36, 40] ++ tl n ++ [41] ++ tl b := by rw [tl_app, tl_app, tl_app, tl_app]; rfl
          have z1 : (a ++ ⟨#[36, 40]⟩ ++ n ++ ⟨#[41]⟩ ++ b).size = (tl a ++ [36, 40] ++ tl n ++ [41] ++ tl b).length := by rw [← e1, tl_len]
          have l1 : (a ++ ⟨#[36, 40]⟩ ++ n ++ ⟨#[41]⟩ ++ b).size ≤ 100000 := by rw [z1]; simp [tl_len]; omega
          have kP : ∀ w2, Below w.heap.size w w2 → _ := fun w2 hb => parse_any (a ++ ⟨#[36, 40]⟩ ++ n ++ ⟨#[41]⟩ ++ b) l1 w2 (hF.below hb)
          rw [e1, z1, prs_ref (tl a) (tl n) (tl b) hae hbe ha1 hb1' hn1] at kP
          have e2 : tl (a ++ ⟨#[36, 36]⟩ ++ b) = tl a ++ [36, 36] ++ tl b := by rw [tl_app, tl_app]; rfl
          have z2 : (a ++ ⟨#[36, 36]⟩ ++ b).size = (tl a ++ [36, 36] ++ tl b).length := by rw [← e2, tl_len]
          have l2 : (a ++ ⟨#[36, 36]⟩ ++ b).size ≤ 100000 := by rw [z2]; simp [tl_len]; omega
          have kQ : ∀ w2, Below w.heap.size w w2 → _ := fun w2 hb => parse_any (a ++ ⟨#[36, 36]⟩ ++ b) l2 w2 (hF.below hb)
          rw [e2, z2, prs_two (tl a) (tl b) ha1 hb1'] at kQ
          have e3 : mk (tl a ++ [36] ++ tl b) = a ++ ⟨#[36]⟩ ++ b := tl_inj _ _ (by rw [tl_app, tl_app]; exact tl_mk _)
          have e4 := mk_tl a
          have e5 := mk_tl b
          have e6 := mk_tl n
          have kn := num_any
          have HE := hide' (And.intro e3 (And.intro e4 (And.intro e5 e6)))
          clear e1 z1 l1 e2 z2 l2 hae hbe ha1 hb1' hn1 e3 e4 e5 e6
          go_upto_region 17 with (go_at_call 8; refine (kP _ hB1).mono ?_; rintro e w3 ⟨⟨v, rfl, L, hL, hlist, _⟩, hb3⟩)
          obtain ⟨a0, a1, a2, rfl⟩ := three hL
          obtain ⟨g, cap, rfl, hc1, hc2, hgl, _, hcell⟩ := own_cells hlist (by simp)
          have hB3 := hB1.trans (hb3.mono hB1.size)
          have hq : ∀ w4, Below w3.heap.size w3 w4 → w4.cell? ⟨g, 1, none⟩ = some (.string a) ∧ w4.cell? ⟨g, 4, none⟩ = some (.int .i64 2) ∧ w4.cell? ⟨g, 5, none⟩ = some (.string n) ∧ w4.cell? ⟨g, 9, none⟩ = some (.string b) := fun w4 hb =>
            ⟨(hb.cell (p := ⟨g, 1, none⟩) hgl).trans ((hcell 1 _ rfl).trans (by rw [HE.out.2.1])), (hb.cell (p := ⟨g, 4, none⟩) hgl).trans (hcell 4 _ rfl), (hb.cell (p := ⟨g, 5, none⟩) hgl).trans ((hcell 5 _ rfl).trans (by show some (Value.string (mk (tl n))) = _; rw [HE.out.2.2.2])), (hb.cell (p := ⟨g, 9, none⟩) hgl).trans ((hcell 9 _ rfl).trans (by rw [HE.out.2.2.1]))⟩
          have HQ := hide' hq
          have hc1' : (3 : Nat) ≤ cap := hc1
          clear hq hcell hlist hL kP hc1
          go_upto_region 18 with (go_at_call 8; refine (kQ _ hB3).mono ?_; rintro e w4 ⟨⟨u, rfl, L', hL', hlist', _⟩, hb4⟩)
          obtain ⟨a3, rfl⟩ := one hL'
          obtain ⟨g', cap', rfl, hd1, hd2, hgl', _, hcell'⟩ := own_cells hlist' (by simp)
          have hB4 := hB3.trans (hb4.mono hB3.size)
          have c9 : w4.cell? ⟨g', 1, none⟩ = some (.string (a ++ ⟨#[36]⟩ ++ b)) := (hcell' 1 _ rfl).trans (by show some (Value.string (mk (tl a ++ [36] ++ tl b))) = _; rw [HE.out.1])
          obtain ⟨q1, q2, q3, q4⟩ := HQ.out w4 hb4
          have hd1' : (1 : Nat) ≤ cap' := hd1
          clear hcell' hlist' hL' kQ hd1 HQ HE
          go_wp2_with (go_at_call 11; refine (kn _ _).mono ?_; rintro e w5 ⟨rfl, rfl⟩)
          go_ret
          exact ⟨by first | rfl | exact ret_bool (by simp), hB4⟩
end Go.Proofs.YtaemmgllhmjceaaDoor
