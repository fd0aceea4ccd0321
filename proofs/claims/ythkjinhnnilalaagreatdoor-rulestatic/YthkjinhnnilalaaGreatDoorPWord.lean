/- The contracts of anvilref1.Index at a per cent sign, of strings.Cut there, and of pat.shapeOf and pat.Has. -/
import Derived.Test.YthkjinhnnilalaaGreatDoorProg
import Derived.Test.YthkjinhnnilalaaGreatDoorShelf
import Derived.WalkKit
import Derived.WalkSpells
import Derived.WalkLawsBesides
import Derived.WalkMore
import Derived.BigQuiet
import Derived.Lib.IndexBytes
import Derived.Test.YthkjinhnnilalaaGreatDoorPPlain
namespace Go.Proofs.YthkjinhnnilalaaGreatDoor.Pt
open Go.RowKit Go.Shelf

theorem hide' {p : Prop} (h : p) : Hid p := h
def tl (x : ByteArray) : List UInt8 := x.data.toList
abbrev mk (l : List UInt8) : ByteArray := ⟨l.toArray⟩
theorem tl_len (s : ByteArray) : (tl s).length = s.size := (Lib.size_eq s).symm
theorem getD_at (s : ByteArray) (k : Nat) (h : k < s.size) : (tl s).getD k 0 = s[k] := by
  unfold tl
  rw [List.getD_eq_getElem?_getD, List.getElem?_eq_getElem (by simpa using h)]; rfl
theorem tl_inj (a b : ByteArray) (h : tl a = tl b) : a = b := by
  obtain ⟨⟨a⟩⟩ := a
  obtain ⟨⟨b⟩⟩ := b
  exact congrArg (fun l : List UInt8 => ByteArray.mk ⟨l⟩) h
theorem tl_mk (l : List UInt8) : tl (mk l) = l := by simp [tl]
theorem mk_tl (s : ByteArray) : mk (tl s) = s := tl_inj _ _ (tl_mk _)
theorem mk_size (l : List UInt8) : (mk l).size = l.length := by rw [← tl_len, tl_mk]
theorem ext_mk (s : ByteArray) (a b : Nat) : s.extract a b = mk (((tl s).drop a).take (b - a)) := tl_inj _ _ (by rw [tl_mk]; exact Lib.extract_data s a b)
theorem ext_drop (s : ByteArray) (a : Nat) : s.extract a s.size = mk ((tl s).drop a) := by
  rw [ext_mk, List.take_of_length_le (by rw [List.length_drop, tl_len]; omega)]
theorem ext_take (s : ByteArray) (b : Nat) : s.extract 0 b = mk ((tl s).take b) := by rw [ext_mk]; simp
theorem drop_at (s : ByteArray) (k : Nat) (h : k < s.size) : (tl s).drop k = s[k] :: (tl s).drop (k + 1) := by
  rw [← getD_at s k h, List.drop_eq_getElem_cons (by rw [tl_len]; exact h), List.getD_eq_getElem?_getD, List.getElem?_eq_getElem (by rw [tl_len]; exact h)]; rfl
theorem beq_no (a c : UInt8) (cn : Nat) (hcn : c.toNat = cn) (h : ¬ a = c) : ((a.toNat : Int) == (cn : Int)) = false := beq_eq_false_iff_ne.2 fun e => h (UInt8.toNat_inj.1 (by omega))
theorem beq_yes (a c : UInt8) (cn : Nat) (hcn : c.toNat = cn) (h : a = c) : ((a.toNat : Int) == (cn : Int)) = true := by rw [h, hcn]; simp
theorem ret_int {a b : Int} (h : a = b) : Ending.returned (.int .i64 a) = .returned (.int .i64 b) := by rw [h]
theorem ret_str {a b : ByteArray} (h : a = b) : Ending.returned (.string a) = .returned (.string b) := by rw [h]

/-- the place of a %, as Index tells it -/
def ip (l : List UInt8) : Int := if opn l then (fp l : Int) else -1

set_option maxHeartbeats 400000 in
theorem rindex_any (s : ByteArray) (w : World) (hs : s.size ≤ 1000000) :
    Calls Tryz.prog 24 #[.string s, .int .u8 37] w fun e w' => e = .returned (.int .i64 (ip (tl s))) ∧ w' = w := by
  go_enter Tryz.func24, Tryz.ntmps24
  go_wp2
  go_loop [5] (fun i => ∃ k : Nat, k ≤ s.size ∧ i = .int .i64 k ∧ Hid (fp (tl s) = k + fp ((tl s).drop k))) (fun i => s.size - (intOf i).toNat)
  case atStart => exact ⟨0, Nat.zero_le _, rfl, by show _ = _; simp⟩
  case round =>
    obtain ⟨k, hk, rfl, HK⟩ := hrel
    by_cases hlt : k < s.size
    · by_cases h1 : s[k] = 37
      · have k1 := beq_yes s[k] 37 37 rfl h1
        have hf : fp (tl s) = k := by rw [HK.out, drop_at s k hlt, h1]; simp [fp]
        have hi : ip (tl s) = k := by
          unfold ip
          rw [if_pos (opn_of _ (by rw [hf, tl_len]; exact hlt)), hf]
        have HI := hide' hi
        clear h1 HK hf hi
        go_wp2
        go_ret
        exact ⟨ret_int HI.out.symm, rfl⟩
      · have k1 := beq_no s[k] 37 37 rfl h1
        have HJ : Hid (fp (tl s) = k + 1 + fp ((tl s).drop (k + 1))) := by
          show _ = _
          rw [HK.out, drop_at s k hlt, fp, if_neg h1]; omega
        clear h1 HK
        go_wp2
        exact ⟨⟨k + 1, by omega, by go_num, HJ⟩, by simp [intOf]; omega⟩
    · have hi : ip (tl s) = -1 := by
        unfold ip
        rw [if_neg ?_]
        intro e
        have h1 := fp_yes _ e
        rw [tl_len] at h1
        have h2 := HK.out
        omega
      have HI := hide' hi
      clear HK hi
      go_wp2
      go_ret
      exact ⟨ret_int HI.out.symm, rfl⟩

set_option maxHeartbeats 400000 in
theorem cutl_any (s : ByteArray) (w : World) (hs : s.size ≤ 1000000) :
    Calls Tryz.prog 43 #[.string s, .string ⟨#[37]⟩] w fun e w' => e = .returned (.tuple #[.string (mk (ahd (tl s))), .string (mk (bhd (tl s))), .bool (opn (tl s))]) ∧ ∃ n, w' = w.drewN n := by
  have q := Tryz.stringslite_Index_one s 37 w
  rw [show s.data.toList = tl s from rfl, index_fp] at q
  by_cases ho : opn (tl s) = true
  · have hf := fp_yes _ ho
    rw [tl_len] at hf
    rw [if_pos ho] at q
    have e1 : mk (ahd (tl s)) = s.extract 0 (fp (tl s)) := (ext_take _ _).symm
    have e2 : mk (bhd (tl s)) = s.extract (fp (tl s) + 1) s.size := (ext_drop _ _).symm
    rw [ho, e1, e2]
    generalize fp (tl s) = m at q hf
    clear ho e1 e2
    go_enter Tryz.func43, Tryz.ntmps43
    go_wp2_with fail
    refine q.mono ?_
    rintro e w' ⟨rfl, rfl⟩
    go_wp2
    go_region
    go_wp2
    go_ret3
    exact ⟨rfl, 1, rfl⟩
  · have ho' : opn (tl s) = false := by simpa using ho
    rw [if_neg ho] at q
    rw [ahd_no _ ho', bhd_no _ ho', ho', mk_tl]
    clear ho ho'
    go_enter Tryz.func43, Tryz.ntmps43
    go_wp2_with fail
    refine q.mono ?_
    rintro e w' ⟨rfl, rfl⟩
    go_wp2
    go_ret3
    exact ⟨rfl, 0, rfl⟩

theorem cut_any (s : ByteArray) (w : World) (hs : s.size ≤ 1000000) :
    Calls Tryz.prog 22 #[.string s, .string ⟨#[37]⟩] w fun e w' => e = .returned (.tuple #[.string (mk (ahd (tl s))), .string (mk (bhd (tl s))), .bool (opn (tl s))]) ∧ ∃ n, w' = w.drewN n := by
  have q := cutl_any s w hs
  generalize mk (ahd (tl s)) = a at q
  generalize mk (bhd (tl s)) = b at q
  generalize opn (tl s) = o at q
  go_enter Tryz.func22, Tryz.ntmps22
  go_wp2_with fail
  refine q.mono ?_
  rintro e w' ⟨rfl, n, rfl⟩
  go_wp2
  go_ret3
  exact ⟨rfl, n, rfl⟩

theorem below_drewn {B : Nat} {w : World} (q : Nat) : Below B w (w.drewN q) := ⟨rfl, rfl, rfl, Nat.le_refl _, fun _ _ => rfl⟩
/-- a pattern that is taken apart, as a value -/
abbrev shv (a b : ByteArray) (o : Bool) : Value := .agg #[.string a, .string b, .bool o]

set_option maxHeartbeats 400000 in
theorem shapeOf_any (s : ByteArray) (w : World) (hs : s.size ≤ 1000000) :
    Calls Tryz.prog 84 #[.string s] w fun e w' => e = .returned (shv (mk (ahd (tl s))) (mk (bhd (tl s))) (opn (tl s))) ∧ Below w.heap.size w w' := by
  have q := fun w => cut_any s w hs
  generalize mk (ahd (tl s)) = a at q
  generalize mk (bhd (tl s)) = b at q
  generalize opn (tl s) = o at q
  go_enter Tryz.func84, Tryz.ntmps84
  go_wp2_with fail
  refine (q _).mono ?_
  rintro e w' ⟨rfl, n, rfl⟩
  go_wp2
  refine bodyPost_ret (by simp [results, Tryz.results84, go_sem]; rfl) rfl ?_
  refine ⟨rfl, ?_⟩
  exact (((((Below.refl _ w).alloc (Nat.le_refl _) _).trans (below_drewn n)).setCell (p := ⟨w.heap.size, 0, none⟩) (Nat.le_refl _) _).setCell (p := ⟨w.heap.size, 1, none⟩) (Nat.le_refl _) _).setCell (p := ⟨w.heap.size, 2, none⟩) (Nat.le_refl _) _

theorem has_any (s : ByteArray) (w : World) :
    Calls Tryz.prog 67 #[.string s] w fun e w' => e = .returned (.bool (opn (tl s))) ∧ w' = w := by
  have q := Tryz.strings_Contains_one s 37 w
  rw [show s.data.toList = tl s from rfl, index_fp] at q
  have e1 : decide ((0 : Int) ≤ if opn (tl s) = true then (fp (tl s) : Int) else -1) = opn (tl s) := by
    by_cases h : opn (tl s) = true
    · rw [if_pos h, h]; simp
    · rw [if_neg h]; simpa using h
  rw [e1] at q
  clear e1
  generalize opn (tl s) = o at q
  go_enter Tryz.func67, Tryz.ntmps67
  go_wp2_with fail
  refine q.mono ?_
  rintro e w' ⟨rfl, rfl⟩
  go_wp2
  go_ret
  exact ⟨rfl, rfl⟩
end Go.Proofs.YthkjinhnnilalaaGreatDoor.Pt
