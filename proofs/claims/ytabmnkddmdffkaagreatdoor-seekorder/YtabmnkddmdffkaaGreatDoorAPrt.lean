/- The contract of seek.parted: a member's name is cut at its first bracket. -/
import Derived.Test.YtabmnkddmdffkaaGreatDoorAXWords
import Derived.Test.YtabmnkddmdffkaaGreatDoorAWord
import Derived.BigQuiet
import Derived.Test.YtabmnkddmdffkaaGreatDoorAZm
namespace Go.Proofs.YtabmnkddmdffkaaGreatDoor.Sk
open Go.RowKit Go.Shelf Tx

/-- the first place of a bracket, or the length -/
def fo : List UInt8 → Nat
  | [] => 0
  | c :: r => if c = 40 then 0 else fo r + 1
theorem fo_le (l : List UInt8) : fo l ≤ l.length := by
  induction l with
  | nil => exact Nat.le_refl _
  | cons c r ih => simp only [fo]; split <;> simp <;> omega
theorem fo_at (l : List UInt8) (k : Nat) (hk : k < l.length) (h : fo (l.drop k) = 0) : l[k] = 40 := by
  rw [List.drop_eq_getElem_cons hk] at h
  simp only [fo] at h
  split at h
  · assumption
  · omega
theorem fo_step (l : List UInt8) (k : Nat) (hk : k < l.length) (h : l[k] ≠ 40) : fo (l.drop k) = fo (l.drop (k + 1)) + 1 := by
  rw [List.drop_eq_getElem_cons hk]
  simp only [fo, if_neg h]
theorem fo_hit (l : List UInt8) (k : Nat) (hk : k < l.length) (h : l[k] = 40) : fo (l.drop k) = 0 := by
  rw [List.drop_eq_getElem_cons hk]
  simp only [fo, if_pos h]
/-- does it end in a bracket? -/
def shut (s : List UInt8) : Bool := s.getLast? == some 41
/-- the name without its last byte -/
def bod (s : List UInt8) : List UInt8 := s.dropLast
/-- is it a member's name? -/
def isM (s : List UInt8) : Bool := shut s && decide (0 < fo (bod s)) && decide (fo (bod s) < (bod s).length)
def pA (s : List UInt8) : List UInt8 := if isM s then (bod s).take (fo (bod s)) else []
def pM (s : List UInt8) : List UInt8 := if isM s then (bod s).drop (fo (bod s) + 1) else []
/-- what is told of a name -/
abbrev prV (s : List UInt8) : Value := .tuple #[.string (mk (pA s)), .string (mk (pM s)), .bool (isM s)]

theorem hasSuffix_one (s : List UInt8) : Lib.hasSuffix s [41] = shut s := by
  unfold Lib.hasSuffix shut
  rcases List.eq_nil_or_concat s with rfl | ⟨r, c, rfl⟩
  · rfl
  · rw [List.concat_eq_append, List.getLast?_append]
    by_cases h : c = 41
    · subst h
      have h1 : [(41 : UInt8)].isSuffixOf (r ++ [41]) = true := List.isSuffixOf_iff_suffix.2 ⟨r, rfl⟩
      rw [h1]; rfl
    · have h1 : [(41 : UInt8)].isSuffixOf (r ++ [c]) = false := by
        cases hx : [(41 : UInt8)].isSuffixOf (r ++ [c]) with
        | false => rfl
        | true =>
          obtain ⟨q, hq⟩ := List.isSuffixOf_iff_suffix.1 hx
          have := (List.append_inj' hq rfl).2
          exact absurd (by simpa using this.symm) h
      have h2 : ((some c : Option UInt8) == some 41) = false := by simpa using h
      rw [h1]
      simp [h2]
theorem trim_one (s : List UInt8) (h : shut s = true) : Lib.trimSuffix s [41] = bod s := by
  unfold Lib.trimSuffix bod
  rw [hasSuffix_one, if_pos h, List.dropLast_eq_take]; rfl
theorem cutS (s : ByteArray) (hs : s.size ≤ 1000000) (w : World) : Calls Tryz.prog 67 #[.string s, .string ⟨#[41]⟩] w fun e w' =>
    e = .returned (.tuple #[.string (if shut (tl s) then mk (bod (tl s)) else s), .bool (shut (tl s))]) ∧ w' = w := by
  refine (Tryz.strings_CutSuffix s ⟨#[41]⟩ w (by omega)).mono ?_
  rintro e w' ⟨rfl, rfl⟩
  refine ⟨?_, rfl⟩
  rw [show (⟨#[41]⟩ : ByteArray).data.toList = [41] from rfl, hasSuffix_one]
  cases h : shut (tl s) with
  | true =>
    have ht : Lib.trimSuffix s.data.toList [41] = bod (tl s) := trim_one _ h
    rw [show shut s.data.toList = true from h, ht]; rfl
  | false =>
    rw [show shut s.data.toList = false from h]
    unfold Lib.trimSuffix
    rw [hasSuffix_one, show shut s.data.toList = false from h]; rfl

set_option maxRecDepth 100000 in
set_option maxHeartbeats 1000000 in
theorem parted_any (s : ByteArray) (hs : s.size ≤ 1000000) (w : World) :
    Calls Tryz.prog 38 #[.string s] w fun e w' => e = .returned (prV (tl s)) ∧ Below w.heap.size w w' := by
  have q := cutS s hs
  cases h : shut (tl s) with
  | false =>
    have h1 : prV (tl s) = .tuple #[.string ⟨#[]⟩, .string ⟨#[]⟩, .bool false] := by
      have : isM (tl s) = false := by unfold isM; rw [h]; rfl
      unfold prV pA pM
      rw [this]; rfl
    rw [h1]
    rw [h] at q
    simp only [Bool.false_eq_true, if_false] at q
    clear h h1
    go_enter Tryz.func38, Tryz.ntmps38
    go_wp2
    go_step3
    go_wp2_with fail
    refine (q _).mono ?_
    rintro e w1 ⟨rfl, rfl⟩
    go_wp2_with fail
    simp only [Exit.noGoto]
    refine bodyPost_ret (by simp [results, Tryz.results38, go_sem]; rfl) rfl ?_
    exact ⟨rfl, Below.refl _ _⟩
  | true =>
    rw [h] at q
    simp only [if_true] at q
    obtain ⟨r, hr⟩ : ∃ r, r = mk (bod (tl s)) := ⟨_, rfl⟩
    have hrl : tl r = bod (tl s) := by rw [hr, tl_mk]
    rw [← hr] at q
    have hrs : r.size ≤ 1000000 := by rw [← tl_len, hrl]; unfold bod; rw [List.length_dropLast, tl_len]; omega
    have hM : isM (tl s) = (decide (0 < fo (tl r)) && decide (fo (tl r) < (tl r).length)) := by unfold isM; rw [h, hrl]; simp
    have hV : prV (tl s) = if isM (tl s) then .tuple #[.string (mk ((tl r).take (fo (tl r)))), .string (mk ((tl r).drop (fo (tl r) + 1))), .bool true] else .tuple #[.string ⟨#[]⟩, .string ⟨#[]⟩, .bool false] := by
      unfold prV pA pM
      rw [← hrl]
      cases hm : isM (tl s) <;> rfl
    rw [hV, hM]
    clear hV hM hrl hr h
    have HR := hide' hrs
    obtain ⟨RES, hRES⟩ : ∃ RES : Value, RES = (if (decide (0 < fo (tl r)) && decide (fo (tl r) < (tl r).length)) = true then Value.tuple #[.string (mk ((tl r).take (fo (tl r)))), .string (mk ((tl r).drop (fo (tl r) + 1))), .bool true] else .tuple #[.string ⟨#[]⟩, .string ⟨#[]⟩, .bool false]) := ⟨_, rfl⟩
    rw [← hRES]
    have HRES := hide' hRES
    clear hRES
    have hsz : (tl r).length = r.size := tl_len r
    have HFO : Hid (fo (tl r) = 0 + fo ((tl r).drop 0)) := by show _ = _; rw [List.drop_zero, Nat.zero_add]
    have HSZ := hide' hsz
    have hle := hide' (fo_le (tl r))
    clear hsz
    go_enter Tryz.func38, Tryz.ntmps38
    go_wp2
    go_step3
    go_wp2_with fail
    refine (q _).mono ?_
    rintro e w1 ⟨rfl, rfl⟩
    clear q
    go_wp2_with fail
    go_step3
    go_wp2
    go_loopw [17] (fun i wr => ∃ k : Nat, k ≤ r.size ∧ i = .int .i64 k ∧ wr = w1 ∧ Hid (fo (tl r) = k + fo ((tl r).drop k))) (fun i _ => r.size - (intOf i).toNat)
    case atStart => exact ⟨0, Nat.zero_le _, rfl, rfl, HFO⟩
    case round =>
      obtain ⟨k, hk, rfl, rfl, HK⟩ := hrel
      by_cases hlt : k < r.size
      · have hkl : k < (tl r).length := by have := HSZ.out; omega
        have hg : (tl r)[k] = r[k] := by simp [tl]; rfl
        by_cases h1 : r[k] = 40
        · have k1 := beq_yes _ _ _ (rfl : (40 : UInt8).toNat = 40) h1
          have k2 : (r[k].toNat : Int) = 40 := by rw [h1]; rfl
          have hE : fo (tl r) = k := HK.out.trans (by rw [fo_hit _ k hkl (hg.trans h1), Nat.add_zero])
          by_cases h0 : k = 0
          · have hR : RES = .tuple #[.string ⟨#[]⟩, .string ⟨#[]⟩, .bool false] := by rw [HRES.out, hE, h0]; rfl
            have HR2 := hide' hR
            clear HK h1 hg hE hR
            subst h0
            go_wp2
            simp only [Exit.noGoto]
            refine bodyPost_ret (by simp [results, Tryz.results38, go_sem]; rfl) rfl ?_
            exact ⟨by rw [HR2.out], Below.refl _ _⟩
          · have hR : RES = .tuple #[.string (r.extract 0 k), .string (r.extract (k + 1) r.size), .bool true] := by
              rw [HRES.out, hE, if_pos (by simp; omega)]
              have e1 : mk ((tl r).take k) = r.extract 0 k := tl_inj _ _ (by rw [tl_mk]; simp [tl])
              have e2 : mk ((tl r).drop (k + 1)) = r.extract (k + 1) r.size := tl_inj _ _ (by rw [tl_mk]; unfold tl; rw [Lib.extract_data, List.take_of_length_le]; rw [List.length_drop]; exact Nat.le_refl _)
              rw [e1, e2]
            have HR2 := hide' hR
            clear HK h1 hg hE hR
            go_wp2
            go_quiet (fail)
            simp only [Exit.then]
            go_wp2
            simp only [Exit.noGoto]
            refine bodyPost_ret (by simp [results, Tryz.results38, go_sem]; rfl) rfl ?_
            exact ⟨by rw [HR2.out], below_drewn _⟩
        · have k1 := beq_no _ _ _ (rfl : (40 : UInt8).toNat = 40) h1
          have k2 : ¬ (r[k].toNat : Int) = 40 := fun e => h1 (UInt8.toNat_inj.1 (by have : (40 : UInt8).toNat = 40 := rfl; omega))
          have HE := hide' (HK.out.trans (by rw [fo_step _ k hkl (by rw [hg]; exact h1)]; omega : _ = (k + 1) + fo ((tl r).drop (k + 1))))
          clear HK h1 hg
          go_wp2
          exact ⟨⟨k + 1, by omega, by go_num, trivial, HE⟩, by simp [intOf]; omega⟩
      · have hR : RES = .tuple #[.string ⟨#[]⟩, .string ⟨#[]⟩, .bool false] := by
          have h2 : fo (tl r) = k := by rw [HK.out, List.drop_of_length_le (by rw [HSZ.out]; omega)]; rfl
          have h3 := HSZ.out
          rw [HRES.out, h2, if_neg (by simp only [Bool.and_eq_true, decide_eq_true_eq]; omega)]
        have HR2 := hide' hR
        clear hR HK
        go_wp2
        simp only [Exit.noGoto]
        refine bodyPost_ret (by simp [results, Tryz.results38, go_sem]; rfl) rfl ?_
        exact ⟨by rw [HR2.out], Below.refl _ _⟩
end Go.Proofs.YtabmnkddmdffkaaGreatDoor.Sk
