/- Plain lists of bytes, of no program: the first per cent sign of a pattern, its two sides, what it matches, what is put into it. The contracts of anvilref1.Index at a per cent sign, of strings.Cut there, and of pat.shapeOf and pat.Has. The contracts of pat's shapes: what stands between the sides, what a shape matches, what is put into it. The contract of pat.Match. -/
import Derived.Lib.Strings
import Derived.Lib.Bytealg
import Derived.Test.YtabmnkddmdffkaaGreatDoorProg
import Derived.Test.YtabmnkddmdffkaaGreatDoorAShelfB
import Derived.WalkKit
import Derived.WalkSpells
import Derived.WalkLawsBesides
import Derived.WalkMore
import Derived.BigQuiet
import Derived.Lib.IndexBytes
import Derived.Test.YtabmnkddmdffkaaGreatDoorAXWords
namespace Go.Proofs.YtabmnkddmdffkaaGreatDoor.Pt

/-- the first place of a %, or the length where there is none -/
def fp : List UInt8 → Nat
  | [] => 0
  | c :: r => if c = 37 then 0 else fp r + 1
def opn (l : List UInt8) : Bool := decide (fp l < l.length)
def ahd (l : List UInt8) : List UInt8 := l.take (fp l)
def bhd (l : List UInt8) : List UInt8 := l.drop (fp l + 1)

theorem fp_le (l : List UInt8) : fp l ≤ l.length := by
  induction l with
  | nil => exact Nat.le_refl _
  | cons c r ih => simp only [fp, List.length_cons]; split <;> omega
theorem fp_no (l : List UInt8) (h : opn l = false) : fp l = l.length := by
  have := fp_le l
  have h' : ¬ fp l < l.length := by simpa [opn] using h
  omega
theorem fp_yes (l : List UInt8) (h : opn l = true) : fp l < l.length := by simpa [opn] using h
theorem opn_of (l : List UInt8) (h : fp l < l.length) : opn l = true := decide_eq_true h
theorem index_fp (l : List UInt8) : Lib.indexByte l 37 = if opn l then (fp l : Int) else -1 := by
  induction l with
  | nil => rfl
  | cons c r ih =>
    unfold Lib.indexByte
    by_cases hc : c = 37
    · subst hc; simp [opn, fp]
    · have hb : (c == 37) = false := by simpa using hc
      rw [if_neg (by simp [hb]), ih]
      by_cases ho : opn r = true
      · have h1 := fp_yes r ho
        have h2 : opn (c :: r) = true := decide_eq_true (by simp only [fp, if_neg hc, List.length_cons]; omega)
        rw [if_pos ho, if_pos h2, if_neg (by simp)]
        simp only [fp, if_neg hc]
        omega
      · have ho' : opn r = false := by simpa using ho
        have h1 := fp_no r ho'
        have h2 : ¬ opn (c :: r) = true := by
          intro e
          have := fp_yes _ e
          simp only [fp, if_neg hc, List.length_cons] at this
          omega
        rw [if_neg ho, if_neg h2]
        rfl
theorem ahd_no (l : List UInt8) (h : opn l = false) : ahd l = l := by unfold ahd; rw [fp_no l h, List.take_length]
theorem bhd_no (l : List UInt8) (h : opn l = false) : bhd l = [] := by unfold bhd; rw [fp_no l h]; exact List.drop_eq_nil_of_le (by omega)
theorem ahd_len (l : List UInt8) : (ahd l).length = fp l := by unfold ahd; rw [List.length_take]; have := fp_le l; omega
theorem bhd_len (l : List UInt8) : (bhd l).length = l.length - (fp l + 1) := by unfold bhd; rw [List.length_drop]

/-- does w begin with a and end with b, without sharing a byte? -/
def both (a b w : List UInt8) : Bool := Lib.hasPrefix w a && Lib.hasSuffix (w.drop a.length) b
def stem (a b w : List UInt8) : List UInt8 := (w.drop a.length).take (w.length - a.length - b.length)
/-- what a shape (its sides, and whether it is open) matches: the stem, and whether it does -/
def ms (a b : List UInt8) (o : Bool) (w : List UInt8) : List UInt8 × Bool := if o then (if both a b w then (stem a b w, true) else ([], false)) else ([], w == a)
def mt (p w : List UInt8) : List UInt8 × Bool := ms (ahd p) (bhd p) (opn p) w
def ps (a b : List UInt8) (o : Bool) (s : List UInt8) : List UInt8 := if o then a ++ (s ++ b) else a
def put (p s : List UInt8) : List UInt8 := ps (ahd p) (bhd p) (opn p) s
def sub (p q w : List UInt8) : List UInt8 := if (mt p w).2 then (if opn p then put q (mt p w).1 else q) else w

theorem both_iff (a b w : List UInt8) : both a b w = (decide (a.length + b.length ≤ w.length) && ((w.take a.length == a) && (w.drop (w.length - b.length) == b))) := by
  unfold both
  rw [← Lib.hasPrefix_of_take, ← Lib.hasSuffix_of_drop, List.length_drop]
  by_cases h1 : a.length + b.length ≤ w.length
  · have h2 : a.length ≤ w.length := by omega
    have h3 : b.length ≤ w.length - a.length := by omega
    rw [List.drop_drop, show a.length + (w.length - a.length - b.length) = w.length - b.length by omega]
    simp [h1, h2, h3]
  · by_cases h2 : a.length ≤ w.length
    · have h3 : ¬ b.length ≤ w.length - a.length := by omega
      simp [h1, h3]
    · simp [h1, h2]
theorem stem_len (a b w : List UInt8) : (stem a b w).length ≤ w.length := by unfold stem; rw [List.length_take, List.length_drop]; omega
theorem mt_len (p w : List UInt8) : (mt p w).1.length ≤ w.length := by
  unfold mt ms
  split
  · split
    · exact stem_len _ _ _
    · exact Nat.zero_le _
  · exact Nat.zero_le _
theorem put_len (p s : List UInt8) : (put p s).length ≤ p.length + s.length := by
  unfold put ps
  split
  · rename_i h
    have := fp_yes p h
    rw [List.length_append, List.length_append, ahd_len, bhd_len]; omega
  · rw [ahd_len]; have := fp_le p; omega
theorem sub_len (p q w : List UInt8) : (sub p q w).length ≤ q.length + w.length := by
  unfold sub
  have h1 := put_len q (mt p w).1
  have h2 := mt_len p w
  split
  · split
    · omega
    · omega
  · omega
theorem both_app (a b s : List UInt8) : both a b (a ++ (s ++ b)) = true := by
  unfold both Lib.hasPrefix Lib.hasSuffix
  rw [List.drop_left]
  simp
theorem stem_app (a b s : List UInt8) : stem a b (a ++ (s ++ b)) = s := by
  unfold stem
  rw [List.drop_left, List.length_append, List.length_append, show a.length + (s.length + b.length) - a.length - b.length = s.length by omega, List.take_left]
theorem fp_app (a b : List UInt8) (h : opn a = false) : fp (a ++ 37 :: b) = a.length := by
  induction a with
  | nil => rfl
  | cons c r ih =>
    have h1 := fp_no _ h
    simp only [fp] at h1
    split at h1
    · simp at h1
    · rename_i hc
      have h2 : opn r = false := by simp only [List.length_cons] at h1; simp [opn]; omega
      simp [fp, hc, ih h2]
theorem opn_app (a b : List UInt8) (h : opn a = false) : opn (a ++ 37 :: b) = true := by simp [opn, fp_app a b h]
theorem ahd_app (a b : List UInt8) (h : opn a = false) : ahd (a ++ 37 :: b) = a := by unfold ahd; rw [fp_app a b h, List.take_left]
theorem bhd_app (a b : List UInt8) (h : opn a = false) : bhd (a ++ 37 :: b) = b := by unfold bhd; rw [fp_app a b h]; simp
theorem put_app (a b s : List UInt8) (h : opn a = false) : put (a ++ 37 :: b) s = a ++ (s ++ b) := by unfold put ps; rw [opn_app a b h, ahd_app a b h, bhd_app a b h]; rfl
theorem mt_app (a b s : List UInt8) (h : opn a = false) : mt (a ++ 37 :: b) (a ++ (s ++ b)) = (s, true) := by unfold mt ms; rw [opn_app a b h, ahd_app a b h, bhd_app a b h, both_app, stem_app]; rfl
theorem sub_app (a b q s : List UInt8) (h : opn a = false) : sub (a ++ 37 :: b) q (a ++ (s ++ b)) = put q s := by unfold sub; rw [mt_app a b s h, opn_app a b h]; rfl
end Go.Proofs.YtabmnkddmdffkaaGreatDoor.Pt
namespace Go.Proofs.YtabmnkddmdffkaaGreatDoor.Pt
open Go.RowKit Go.Shelf

theorem hide' {p : Prop} (h : p) : Hid p := h
def tl (x : ByteArray) : List UInt8 := x.data.toList
abbrev mk (l : List UInt8) : ByteArray := ⟨l.toArray⟩
theorem tl_len (s : ByteArray) : (tl s).length = s.size := (Lib.size_eq s).symm
theorem getD_at (s : ByteArray) (k : Nat) (h : k < s.size) : (tl s).getD k 0 = s[k] := by
  unfold tl
  rw [List.getD_eq_getElem?_getD, List.getElem?_eq_getElem (by simpa using h)]; rfl
theorem tl_inj (a b : ByteArray) (h : tl a = tl b) : a = b := by
  obtain ⟨⟨a⟩⟩ := a
  obtain ⟨⟨b⟩⟩ := b
  exact congrArg (fun l : List UInt8 => ByteArray.mk ⟨l⟩) h
theorem tl_mk (l : List UInt8) : tl (mk l) = l := by simp [tl]
theorem mk_tl (s : ByteArray) : mk (tl s) = s := tl_inj _ _ (tl_mk _)
theorem mk_size (l : List UInt8) : (mk l).size = l.length := by rw [← tl_len, tl_mk]
theorem ext_mk (s : ByteArray) (a b : Nat) : s.extract a b = mk (((tl s).drop a).take (b - a)) := tl_inj _ _ (by rw [tl_mk]; exact Lib.extract_data s a b)
theorem ext_drop (s : ByteArray) (a : Nat) : s.extract a s.size = mk ((tl s).drop a) := by
  rw [ext_mk, List.take_of_length_le (by rw [List.length_drop, tl_len]; omega)]
theorem ext_take (s : ByteArray) (b : Nat) : s.extract 0 b = mk ((tl s).take b) := by rw [ext_mk]; simp
theorem drop_at (s : ByteArray) (k : Nat) (h : k < s.size) : (tl s).drop k = s[k] :: (tl s).drop (k + 1) := by
  rw [← getD_at s k h, List.drop_eq_getElem_cons (by rw [tl_len]; exact h), List.getD_eq_getElem?_getD, List.getElem?_eq_getElem (by rw [tl_len]; exact h)]; rfl
theorem beq_no (a c : UInt8) (cn : Nat) (hcn : c.toNat = cn) (h : ¬ a = c) : ((a.toNat : Int) == (cn : Int)) = false := beq_eq_false_iff_ne.2 fun e => h (UInt8.toNat_inj.1 (by omega))
theorem beq_yes (a c : UInt8) (cn : Nat) (hcn : c.toNat = cn) (h : a = c) : ((a.toNat : Int) == (cn : Int)) = true := by rw [h, hcn]; simp
theorem ret_int {a b : Int} (h : a = b) : Ending.returned (.int .i64 a) = .returned (.int .i64 b) := by rw [h]
theorem ret_str {a b : ByteArray} (h : a = b) : Ending.returned (.string a) = .returned (.string b) := by rw [h]

/-- the place of a %, as Index tells it -/
def ip (l : List UInt8) : Int := if opn l then (fp l : Int) else -1

set_option maxHeartbeats 400000 in
theorem rindex_any (s : ByteArray) (w : World) (hs : s.size ≤ 1000000) :
    Calls Tryz.prog 39 #[.string s, .int .u8 37] w fun e w' => e = .returned (.int .i64 (ip (tl s))) ∧ w' = w := by
  go_enter Tryz.func39, Tryz.ntmps39
  go_wp2
  go_loop [5] (fun i => ∃ k : Nat, k ≤ s.size ∧ i = .int .i64 k ∧ Hid (fp (tl s) = k + fp ((tl s).drop k))) (fun i => s.size - (intOf i).toNat)
  case atStart => exact ⟨0, Nat.zero_le _, rfl, by show _ = _; simp⟩
  case round =>
    obtain ⟨k, hk, rfl, HK⟩ := hrel
    by_cases hlt : k < s.size
    · by_cases h1 : s[k] = 37
      · have k1 := beq_yes s[k] 37 37 rfl h1
        have hf : fp (tl s) = k := by rw [HK.out, drop_at s k hlt, h1]; simp [fp]
        have hi : ip (tl s) = k := by
          unfold ip
          rw [if_pos (opn_of _ (by rw [hf, tl_len]; exact hlt)), hf]
        have HI := hide' hi
        clear h1 HK hf hi
        go_wp2
        go_ret
        exact ⟨ret_int HI.out.symm, rfl⟩
      · have k1 := beq_no s[k] 37 37 rfl h1
        have HJ : Hid (fp (tl s) = k + 1 + fp ((tl s).drop (k + 1))) := by
          show _ = _
          rw [HK.out, drop_at s k hlt, fp, if_neg h1]; omega
        clear h1 HK
        go_wp2
        exact ⟨⟨k + 1, by omega, by go_num, HJ⟩, by simp [intOf]; omega⟩
    · have hi : ip (tl s) = -1 := by
        unfold ip
        rw [if_neg ?_]
        intro e
        have h1 := fp_yes _ e
        rw [tl_len] at h1
        have h2 := HK.out
        omega
      have HI := hide' hi
      clear HK hi
      go_wp2
      go_ret
      exact ⟨ret_int HI.out.symm, rfl⟩

set_option maxHeartbeats 400000 in
theorem cutl_any (s : ByteArray) (w : World) (hs : s.size ≤ 1000000) :
    Calls Tryz.prog 155 #[.string s, .string ⟨#[37]⟩] w fun e w' => e = .returned (.tuple #[.string (mk (ahd (tl s))), .string (mk (bhd (tl s))), .bool (opn (tl s))]) ∧ ∃ n, w' = w.drewN n := by
  have q := Tryz.stringslite_Index_one s 37 w
  rw [show s.data.toList = tl s from rfl, index_fp] at q
  by_cases ho : opn (tl s) = true
  · have hf := fp_yes _ ho
    rw [tl_len] at hf
    rw [if_pos ho] at q
    have e1 : mk (ahd (tl s)) = s.extract 0 (fp (tl s)) := (ext_take _ _).symm
    have e2 : mk (bhd (tl s)) = s.extract (fp (tl s) + 1) s.size := (ext_drop _ _).symm
    rw [ho, e1, e2]
    generalize fp (tl s) = m at q hf
    clear ho e1 e2
    go_enter Tryz.func155, Tryz.ntmps155
    go_wp2_with fail
    refine q.mono ?_
    rintro e w' ⟨rfl, rfl⟩
    go_wp2
    go_region
    go_wp2
    go_ret3
    exact ⟨rfl, 1, rfl⟩
  · have ho' : opn (tl s) = false := by simpa using ho
    rw [if_neg ho] at q
    rw [ahd_no _ ho', bhd_no _ ho', ho', mk_tl]
    clear ho ho'
    go_enter Tryz.func155, Tryz.ntmps155
    go_wp2_with fail
    refine q.mono ?_
    rintro e w' ⟨rfl, rfl⟩
    go_wp2
    go_ret3
    exact ⟨rfl, 0, rfl⟩

theorem cut_any (s : ByteArray) (w : World) (hs : s.size ≤ 1000000) :
    Calls Tryz.prog 135 #[.string s, .string ⟨#[37]⟩] w fun e w' => e = .returned (.tuple #[.string (mk (ahd (tl s))), .string (mk (bhd (tl s))), .bool (opn (tl s))]) ∧ ∃ n, w' = w.drewN n := by
  have q := cutl_any s w hs
  generalize mk (ahd (tl s)) = a at q
  generalize mk (bhd (tl s)) = b at q
  generalize opn (tl s) = o at q
  go_enter Tryz.func135, Tryz.ntmps135
  go_wp2_with fail
  refine q.mono ?_
  rintro e w' ⟨rfl, n, rfl⟩
  go_wp2
  go_ret3
  exact ⟨rfl, n, rfl⟩

theorem below_drewn {B : Nat} {w : World} (q : Nat) : Below B w (w.drewN q) := ⟨rfl, rfl, rfl, Nat.le_refl _, fun _ _ => rfl⟩
/-- a pattern that is taken apart, as a value -/
abbrev shv (a b : ByteArray) (o : Bool) : Value := .agg #[.string a, .string b, .bool o]

set_option maxHeartbeats 400000 in
theorem shapeOf_any (s : ByteArray) (w : World) (hs : s.size ≤ 1000000) :
    Calls Tryz.prog 111 #[.string s] w fun e w' => e = .returned (shv (mk (ahd (tl s))) (mk (bhd (tl s))) (opn (tl s))) ∧ Below w.heap.size w w' := by
  have q := fun w => cut_any s w hs
  generalize mk (ahd (tl s)) = a at q
  generalize mk (bhd (tl s)) = b at q
  generalize opn (tl s) = o at q
  go_enter Tryz.func111, Tryz.ntmps111
  go_wp2_with fail
  refine (q _).mono ?_
  rintro e w' ⟨rfl, n, rfl⟩
  go_wp2
  refine bodyPost_ret (by simp [results, Tryz.results111, go_sem]; rfl) rfl ?_
  refine ⟨rfl, ?_⟩
  exact (((((Below.refl _ w).alloc (Nat.le_refl _) _).trans (below_drewn n)).setCell (p := ⟨w.heap.size, 0, none⟩) (Nat.le_refl _) _).setCell (p := ⟨w.heap.size, 1, none⟩) (Nat.le_refl _) _).setCell (p := ⟨w.heap.size, 2, none⟩) (Nat.le_refl _) _

end Go.Proofs.YtabmnkddmdffkaaGreatDoor.Pt
namespace Go.Proofs.YtabmnkddmdffkaaGreatDoor.Pt
open Go.RowKit Go.Shelf

theorem trim_yes (w a : List UInt8) (h : Lib.hasPrefix w a = true) : Lib.trimPrefix w a = w.drop a.length := by unfold Lib.trimPrefix; rw [if_pos h]
theorem tsuf_yes (w b : List UInt8) (h : Lib.hasSuffix w b = true) : Lib.trimSuffix w b = w.take (w.length - b.length) := by unfold Lib.trimSuffix; rw [if_pos h]

/-- what 'between' tells, as a list -/
def bt (a b w : List UInt8) : List UInt8 × Bool := if both a b w then (stem a b w, true) else ([], false)

set_option maxHeartbeats 400000 in
theorem between_any (a b s : ByteArray) (w : World) (hs : s.size ≤ 1000000) :
    Calls Tryz.prog 136 #[.agg #[.string a, .string b], .string s] w fun e w' => e = .returned (.tuple #[.string (mk (bt (tl a) (tl b) (tl s)).1), .bool (bt (tl a) (tl b) (tl s)).2]) ∧ Below w.heap.size w w' := by
  have q1 := fun w => Tryz.strings_CutPrefix s a w
  have hle := Lib.trimPrefix_le (tl s) (tl a)
  have q2 := fun w => Tryz.strings_CutSuffix (mk (Lib.trimPrefix (tl s) (tl a))) b w (by rw [mk_size]; rw [tl_len] at hle; omega)
  rw [show s.data.toList = tl s from rfl, show a.data.toList = tl a from rfl] at q1
  rw [show (mk (Lib.trimPrefix (tl s) (tl a))).data.toList = Lib.trimPrefix (tl s) (tl a) from tl_mk _, show b.data.toList = tl b from rfl] at q2
  obtain ⟨x, hx⟩ : ∃ x, x = bt (tl a) (tl b) (tl s) := ⟨_, rfl⟩
  rw [← hx]
  cases h1 : Lib.hasPrefix (tl s) (tl a) with
  | false =>
    have hx' : x = ([], false) := by rw [hx]; unfold bt both; rw [h1]; rfl
    subst hx'
    rw [h1] at q1
    generalize Lib.hasSuffix (Lib.trimPrefix (tl s) (tl a)) (tl b) = o2 at q2
    generalize (⟨(Lib.trimSuffix (Lib.trimPrefix (tl s) (tl a)) (tl b)).toArray⟩ : ByteArray) = r2 at q2
    dsimp only [mk] at q2
    generalize (⟨(Lib.trimPrefix (tl s) (tl a)).toArray⟩ : ByteArray) = r1 at q1 q2
    clear h1 hx hle
    go_enter Tryz.func136, Tryz.ntmps136
    go_wp2_with fail
    refine (q1 _).mono ?_
    rintro e w' ⟨rfl, rfl⟩
    go_wp2_with fail
    refine (q2 _).mono ?_
    rintro e w' ⟨rfl, rfl⟩
    go_wp2
    go_ret2
    exact ⟨rfl, (Below.refl _ _).alloc (Nat.le_refl _) _⟩
  | true =>
    rw [h1] at q1
    rw [trim_yes _ _ h1] at q1 q2
    cases h2 : Lib.hasSuffix ((tl s).drop (tl a).length) (tl b) with
    | false =>
      have hx' : x = ([], false) := by rw [hx]; unfold bt both; rw [h1, h2]; rfl
      subst hx'
      rw [h2] at q2
      generalize (⟨(Lib.trimSuffix ((tl s).drop (tl a).length) (tl b)).toArray⟩ : ByteArray) = r2 at q2
      dsimp only [mk] at q2
      generalize (⟨((tl s).drop (tl a).length).toArray⟩ : ByteArray) = r1 at q1 q2
      clear h1 h2 hx hle
      go_enter Tryz.func136, Tryz.ntmps136
      go_wp2_with fail
      refine (q1 _).mono ?_
      rintro e w' ⟨rfl, rfl⟩
      go_wp2_with fail
      refine (q2 _).mono ?_
      rintro e w' ⟨rfl, rfl⟩
      go_wp2
      go_ret2
      exact ⟨rfl, (Below.refl _ _).alloc (Nat.le_refl _) _⟩
    | true =>
      have hx' : x = (stem (tl a) (tl b) (tl s), true) := by rw [hx]; unfold bt both; rw [h1, h2]; rfl
      subst hx'
      have e2 : Lib.trimSuffix ((tl s).drop (tl a).length) (tl b) = stem (tl a) (tl b) (tl s) := by rw [tsuf_yes _ _ h2]; unfold stem; rw [List.length_drop]
      rw [h2, e2] at q2
      dsimp only [mk] at q2 ⊢
      generalize (⟨(stem (tl a) (tl b) (tl s)).toArray⟩ : ByteArray) = r2 at q2
      generalize (⟨((tl s).drop (tl a).length).toArray⟩ : ByteArray) = r1 at q1 q2
      clear h1 h2 hx hle e2
      go_enter Tryz.func136, Tryz.ntmps136
      go_wp2_with fail
      refine (q1 _).mono ?_
      rintro e w' ⟨rfl, rfl⟩
      go_wp2_with fail
      refine (q2 _).mono ?_
      rintro e w' ⟨rfl, rfl⟩
      go_wp2
      go_ret2
      exact ⟨rfl, (Below.refl _ _).alloc (Nat.le_refl _) _⟩

theorem beq_list (a b : ByteArray) : (a.toList == b.toList) = (tl a == tl b) := by rw [Lib.toList_data, Lib.toList_data]; rfl

set_option maxHeartbeats 400000 in
theorem match_any (a b : ByteArray) (o : Bool) (s : ByteArray) (w : World) (hs : s.size ≤ 1000000) :
    Calls Tryz.prog 112 #[shv a b o, .string s] w fun e w' => e = .returned (.tuple #[.string (mk (ms (tl a) (tl b) o (tl s)).1), .bool (ms (tl a) (tl b) o (tl s)).2]) ∧ Below w.heap.size w w' := by
  cases o with
  | false =>
    have e2 : (ms (tl a) (tl b) false (tl s)) = ([], tl s == tl a) := rfl
    rw [e2]
    have e3 := beq_list s a
    dsimp only
    generalize (tl s == tl a) = r at e3
    clear e2
    go_enter Tryz.func112, Tryz.ntmps112
    go_wp2
    go_region
    go_wp2
    go_ret2
    exact ⟨rfl, ((Below.refl _ _).alloc (Nat.le_refl _) _).drew⟩
  | true =>
    have q := fun w => between_any a b s w hs
    have e2 : (ms (tl a) (tl b) true (tl s)) = bt (tl a) (tl b) (tl s) := rfl
    rw [e2]
    generalize mk (bt (tl a) (tl b) (tl s)).1 = r1 at q
    generalize (bt (tl a) (tl b) (tl s)).2 = r2 at q
    clear e2
    go_enter Tryz.func112, Tryz.ntmps112
    go_wp2_with fail
    refine (q _).mono ?_
    rintro e w' ⟨rfl, hb⟩
    go_wp2
    go_ret2
    exact ⟨rfl, ((Below.refl _ _).alloc (Nat.le_refl _) _).trans (hb.mono (by simp))⟩
end Go.Proofs.YtabmnkddmdffkaaGreatDoor.Pt
namespace Go.Proofs.YtabmnkddmdffkaaGreatDoor.Pt
open Go.RowKit Go.Shelf


set_option maxHeartbeats 400000 in
theorem pmatch_any (p s : ByteArray) (w : World) (hp : p.size ≤ 1000000) (hs : s.size ≤ 1000000) :
    Calls Tryz.prog 86 #[.string p, .string s] w fun e w' => e = .returned (.tuple #[.string (mk (mt (tl p) (tl s)).1), .bool (mt (tl p) (tl s)).2]) ∧ Below w.heap.size w w' := by
  have q1 := fun w => shapeOf_any p w hp
  have q2 := fun w => match_any (mk (ahd (tl p))) (mk (bhd (tl p))) (opn (tl p)) s w hs
  simp only [tl_mk] at q2
  rw [show ms (ahd (tl p)) (bhd (tl p)) (opn (tl p)) (tl s) = mt (tl p) (tl s) from rfl] at q2
  have hl := mt_len (tl p) (tl s)
  have q3 := fun w => Tx.clone_any (mk (mt (tl p) (tl s)).1) w (by rw [mk_size]; rw [tl_len] at hl; omega)
  generalize mk (ahd (tl p)) = a at q1 q2
  generalize mk (bhd (tl p)) = b at q1 q2
  generalize opn (tl p) = o at q1 q2
  generalize mk (mt (tl p) (tl s)).1 = x at q2 q3
  generalize (mt (tl p) (tl s)).2 = y at q2
  clear hl
  go_enter Tryz.func86, Tryz.ntmps86
  go_wp2_with fail
  refine (q1 _).mono ?_
  rintro e w1 ⟨rfl, hb1⟩
  go_wp2_with fail
  refine (q2 _).mono ?_
  rintro e w2 ⟨rfl, hb2⟩
  have B2 := hb1.trans (hb2.mono hb1.size)
  clear hb1 hb2
  go_wp2_with fail
  refine (q3 _).mono ?_
  rintro e w3 ⟨rfl, hb3⟩
  have B3 := B2.trans (hb3.mono B2.size)
  clear B2 hb3
  go_wp2
  go_ret2
  exact ⟨rfl, B3⟩
end Go.Proofs.YtabmnkddmdffkaaGreatDoor.Pt
