/- The contracts of pat's shapes: what stands between the sides, what a shape matches, what is put into it. -/
import Derived.Test.YthkjinhnnilalaaGreatDoorPWord
namespace Go.Proofs.YthkjinhnnilalaaGreatDoor.Pt
open Go.RowKit Go.Shelf

theorem trim_yes (w a : List UInt8) (h : Lib.hasPrefix w a = true) : Lib.trimPrefix w a = w.drop a.length := by unfold Lib.trimPrefix; rw [if_pos h]
theorem tsuf_yes (w b : List UInt8) (h : Lib.hasSuffix w b = true) : Lib.trimSuffix w b = w.take (w.length - b.length) := by unfold Lib.trimSuffix; rw [if_pos h]

/-- what 'between' tells, as a list -/
def bt (a b w : List UInt8) : List UInt8 × Bool := if both a b w then (stem a b w, true) else ([], false)

set_option maxHeartbeats 400000 in
theorem between_any (a b s : ByteArray) (w : World) (hs : s.size ≤ 1000000) :
    Calls Tryz.prog 92 #[.agg #[.string a, .string b], .string s] w fun e w' => e = .returned (.tuple #[.string (mk (bt (tl a) (tl b) (tl s)).1), .bool (bt (tl a) (tl b) (tl s)).2]) ∧ Below w.heap.size w w' := by
  have q1 := fun w => Tryz.strings_CutPrefix s a w
  have hle := Lib.trimPrefix_le (tl s) (tl a)
  have q2 := fun w => Tryz.strings_CutSuffix (mk (Lib.trimPrefix (tl s) (tl a))) b w (by rw [mk_size]; rw [tl_len] at hle; omega)
  rw [show s.data.toList = tl s from rfl, show a.data.toList = tl a from rfl] at q1
  rw [show (mk (Lib.trimPrefix (tl s) (tl a))).data.toList = Lib.trimPrefix (tl s) (tl a) from tl_mk _, show b.data.toList = tl b from rfl] at q2
  obtain ⟨x, hx⟩ : ∃ x, x = bt (tl a) (tl b) (tl s) := ⟨_, rfl⟩
  rw [← hx]
  cases h1 : Lib.hasPrefix (tl s) (tl a) with
  | false =>
    have hx' : x = ([], false) := by rw [hx]; unfold bt both; rw [h1]; rfl
    subst hx'
    rw [h1] at q1
    generalize Lib.hasSuffix (Lib.trimPrefix (tl s) (tl a)) (tl b) = o2 at q2
    generalize (⟨(Lib.trimSuffix (Lib.trimPrefix (tl s) (tl a)) (tl b)).toArray⟩ : ByteArray) = r2 at q2
    dsimp only [mk] at q2
    generalize (⟨(Lib.trimPrefix (tl s) (tl a)).toArray⟩ : ByteArray) = r1 at q1 q2
    clear h1 hx hle
    go_enter Tryz.func92, Tryz.ntmps92
    go_wp2_with fail
    refine (q1 _).mono ?_
    rintro e w' ⟨rfl, rfl⟩
    go_wp2_with fail
    refine (q2 _).mono ?_
    rintro e w' ⟨rfl, rfl⟩
    go_wp2
    go_ret2
    exact ⟨rfl, (Below.refl _ _).alloc (Nat.le_refl _) _⟩
  | true =>
    rw [h1] at q1
    rw [trim_yes _ _ h1] at q1 q2
    cases h2 : Lib.hasSuffix ((tl s).drop (tl a).length) (tl b) with
    | false =>
      have hx' : x = ([], false) := by rw [hx]; unfold bt both; rw [h1, h2]; rfl
      subst hx'
      rw [h2] at q2
      generalize (⟨(Lib.trimSuffix ((tl s).drop (tl a).length) (tl b)).toArray⟩ : ByteArray) = r2 at q2
      dsimp only [mk] at q2
      generalize (⟨((tl s).drop (tl a).length).toArray⟩ : ByteArray) = r1 at q1 q2
      clear h1 h2 hx hle
      go_enter Tryz.func92, Tryz.ntmps92
      go_wp2_with fail
      refine (q1 _).mono ?_
      rintro e w' ⟨rfl, rfl⟩
      go_wp2_with fail
      refine (q2 _).mono ?_
      rintro e w' ⟨rfl, rfl⟩
      go_wp2
      go_ret2
      exact ⟨rfl, (Below.refl _ _).alloc (Nat.le_refl _) _⟩
    | true =>
      have hx' : x = (stem (tl a) (tl b) (tl s), true) := by rw [hx]; unfold bt both; rw [h1, h2]; rfl
      subst hx'
      have e2 : Lib.trimSuffix ((tl s).drop (tl a).length) (tl b) = stem (tl a) (tl b) (tl s) := by rw [tsuf_yes _ _ h2]; unfold stem; rw [List.length_drop]
      rw [h2, e2] at q2
      dsimp only [mk] at q2 ⊢
      generalize (⟨(stem (tl a) (tl b) (tl s)).toArray⟩ : ByteArray) = r2 at q2
      generalize (⟨((tl s).drop (tl a).length).toArray⟩ : ByteArray) = r1 at q1 q2
      clear h1 h2 hx hle e2
      go_enter Tryz.func92, Tryz.ntmps92
      go_wp2_with fail
      refine (q1 _).mono ?_
      rintro e w' ⟨rfl, rfl⟩
      go_wp2_with fail
      refine (q2 _).mono ?_
      rintro e w' ⟨rfl, rfl⟩
      go_wp2
      go_ret2
      exact ⟨rfl, (Below.refl _ _).alloc (Nat.le_refl _) _⟩

theorem beq_list (a b : ByteArray) : (a.toList == b.toList) = (tl a == tl b) := by rw [Lib.toList_data, Lib.toList_data]; rfl

set_option maxHeartbeats 400000 in
theorem match_any (a b : ByteArray) (o : Bool) (s : ByteArray) (w : World) (hs : s.size ≤ 1000000) :
    Calls Tryz.prog 85 #[shv a b o, .string s] w fun e w' => e = .returned (.tuple #[.string (mk (ms (tl a) (tl b) o (tl s)).1), .bool (ms (tl a) (tl b) o (tl s)).2]) ∧ Below w.heap.size w w' := by
  cases o with
  | false =>
    have e2 : (ms (tl a) (tl b) false (tl s)) = ([], tl s == tl a) := rfl
    rw [e2]
    have e3 := beq_list s a
    dsimp only
    generalize (tl s == tl a) = r at e3
    clear e2
    go_enter Tryz.func85, Tryz.ntmps85
    go_wp2
    go_region
    go_wp2
    go_ret2
    exact ⟨rfl, ((Below.refl _ _).alloc (Nat.le_refl _) _).drew⟩
  | true =>
    have q := fun w => between_any a b s w hs
    have e2 : (ms (tl a) (tl b) true (tl s)) = bt (tl a) (tl b) (tl s) := rfl
    rw [e2]
    generalize mk (bt (tl a) (tl b) (tl s)).1 = r1 at q
    generalize (bt (tl a) (tl b) (tl s)).2 = r2 at q
    clear e2
    go_enter Tryz.func85, Tryz.ntmps85
    go_wp2_with fail
    refine (q _).mono ?_
    rintro e w' ⟨rfl, hb⟩
    go_wp2
    go_ret2
    exact ⟨rfl, ((Below.refl _ _).alloc (Nat.le_refl _) _).trans (hb.mono (by simp))⟩
end Go.Proofs.YthkjinhnnilalaaGreatDoor.Pt
