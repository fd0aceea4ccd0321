/- The map of the utilities. Words of a utility's call; Run. An option of a call; the error that a call has met. each, some. Run of a utility that there is. -/
import Derived.Test.YtbfchadcpokjoaaGreatDoorAShelf
import Derived.Test.YtbfchadcpokjoaaGreatDoorAZp
import Derived.ChangeMaps5
import Derived.MapKept
import Derived.Test.YtbfchadcpokjoaaGreatDoorAZf
namespace Go.Proofs.YtbfchadcpokjoaaGreatDoor
open Go.RowKit

abbrev utV (k : Nat) : Value := .func (.func k) #[] #[]
/-- which function a name stands for -/
def utOf (t : Bs) : Option Nat :=
  if t = [116, 114, 117, 101] then some 43
  else if t = [102, 97, 108, 115, 101] then some 44
  else if t = [101, 99, 104, 111] then some 45
  else if t = [112, 114, 105, 110, 116, 102] then some 46
  else if t = [99, 97, 116] then some 47
  else if t = [99, 112] then some 48
  else if t = [109, 118] then some 49
  else if t = [114, 109] then some 50
  else if t = [116, 111, 117, 99, 104] then some 51
  else if t = [109, 107, 100, 105, 114] then some 52
  else if t = [116, 101, 115, 116] then some 53
  else if t = [91] then some 54
  else if t = [97, 114] then some 55
  else if t = [99, 99] then some 56
  else none
def utilsA : Array MapEntry := #[⟨.string ⟨#[116, 114, 117, 101]⟩, utV 43, 0⟩, ⟨.string ⟨#[102, 97, 108, 115, 101]⟩, utV 44, 1⟩, ⟨.string ⟨#[101, 99, 104, 111]⟩, utV 45, 2⟩, ⟨.string ⟨#[112, 114, 105, 110, 116, 102]⟩, utV 46, 3⟩, ⟨.string ⟨#[99, 97, 116]⟩, utV 47, 4⟩, ⟨.string ⟨#[99, 112]⟩, utV 48, 5⟩, ⟨.string ⟨#[109, 118]⟩, utV 49, 6⟩, ⟨.string ⟨#[114, 109]⟩, utV 50, 7⟩, ⟨.string ⟨#[116, 111, 117, 99, 104]⟩, utV 51, 8⟩, ⟨.string ⟨#[109, 107, 100, 105, 114]⟩, utV 52, 9⟩, ⟨.string ⟨#[116, 101, 115, 116]⟩, utV 53, 10⟩, ⟨.string ⟨#[91]⟩, utV 54, 11⟩, ⟨.string ⟨#[97, 114]⟩, utV 55, 12⟩, ⟨.string ⟨#[99, 99]⟩, utV 56, 13⟩]
def utW (t : Bs) : Value := match utOf t with
  | some k => utV k
  | none => .nilFunc
theorem zero67 (w : World) : (zeroValue 67).run Tryz.prog w = .ok .nilFunc w := by
  first | kernel_rfl | rfl
theorem find_no (k : ByteArray) (es : List MapEntry) : ∀ i, (∀ e ∈ es, ∃ s, e.key = .string s ∧ (k == s) = false) → Instr.findNow .string (.string k) es i = some none := by
  induction es with
  | nil => intro i _; rfl
  | cons e r ih =>
    intro i h
    obtain ⟨s, h1, h2⟩ := h e (by simp)
    unfold Instr.findNow
    rw [h1]
    simp only [Instr.sameNow, h2]
    exact ih (i + 1) fun e' he' => h e' (by simp [he'])
theorem find_utils (t : Bs) : Instr.findNow .string (.string (mk t)) utilsA.toList 0 = some ((utOf t).map fun k => (k - 43, utV k)) := by
  by_cases h0 : t = [116, 114, 117, 101]
  · subst h0; rfl
  by_cases h1 : t = [102, 97, 108, 115, 101]
  · subst h1; rfl
  by_cases h2 : t = [101, 99, 104, 111]
  · subst h2; rfl
  by_cases h3 : t = [112, 114, 105, 110, 116, 102]
  · subst h3; rfl
  by_cases h4 : t = [99, 97, 116]
  · subst h4; rfl
  by_cases h5 : t = [99, 112]
  · subst h5; rfl
  by_cases h6 : t = [109, 118]
  · subst h6; rfl
  by_cases h7 : t = [114, 109]
  · subst h7; rfl
  by_cases h8 : t = [116, 111, 117, 99, 104]
  · subst h8; rfl
  by_cases h9 : t = [109, 107, 100, 105, 114]
  · subst h9; rfl
  by_cases h10 : t = [116, 101, 115, 116]
  · subst h10; rfl
  by_cases h11 : t = [91]
  · subst h11; rfl
  by_cases h12 : t = [97, 114]
  · subst h12; rfl
  by_cases h13 : t = [99, 99]
  · subst h13; rfl
  have hf : utOf t = none := by unfold utOf; simp only [h0, h1, h2, h3, h4, h5, h6, h7, h8, h9, h10, h11, h12, h13, if_false]
  rw [hf]
  refine find_no _ _ _ fun e he => ?_
  have hne : ∀ (l : Bs), ¬ t = l → (mk t == ⟨l.toArray⟩) = false := fun l hl => by
    show (t.toArray == l.toArray) = false
    simp [hl]
  simp only [utilsA, List.mem_cons, List.not_mem_nil, or_false] at he
  rcases he with rfl | rfl | rfl | rfl | rfl | rfl | rfl | rfl | rfl | rfl | rfl | rfl | rfl | rfl
  · exact ⟨_, rfl, hne [116, 114, 117, 101] h0⟩
  · exact ⟨_, rfl, hne [102, 97, 108, 115, 101] h1⟩
  · exact ⟨_, rfl, hne [101, 99, 104, 111] h2⟩
  · exact ⟨_, rfl, hne [112, 114, 105, 110, 116, 102] h3⟩
  · exact ⟨_, rfl, hne [99, 97, 116] h4⟩
  · exact ⟨_, rfl, hne [99, 112] h5⟩
  · exact ⟨_, rfl, hne [109, 118] h6⟩
  · exact ⟨_, rfl, hne [114, 109] h7⟩
  · exact ⟨_, rfl, hne [116, 111, 117, 99, 104] h8⟩
  · exact ⟨_, rfl, hne [109, 107, 100, 105, 114] h9⟩
  · exact ⟨_, rfl, hne [116, 101, 115, 116] h10⟩
  · exact ⟨_, rfl, hne [91] h11⟩
  · exact ⟨_, rfl, hne [97, 114] h12⟩
  · exact ⟨_, rfl, hne [99, 99] h13⟩
theorem look_utils {w : World} {M : Nat} (h : w.heap[M]? = some (.map utilsA 14)) (t : Bs) : (Instr.lookup 69 (.map (some M)) (.string (mk t)) true).run Tryz.prog w = .ok (.tuple #[utW t, .bool (utOf t).isSome]) w := by
  have hg : (getObj M).run Tryz.prog w = .ok (.map utilsA 14) w := by
    simp [getObj, Sem.run, h]
  have hff := find_utils t
  unfold Instr.lookup
  simp only [Sem.run_bind, run_underlying Tryz.underlying69, Result.andThen_ok, hg, Sem.run_pure]
  have hck : (Instr.checkKey utilsA.isEmpty 10000 9 (.string (mk t))).run Tryz.prog w = .ok () w := by
    unfold Instr.checkKey
    simp [Sem.run_bind, run_underlying Tryz.underlying9]
  rw [hck]
  simp only [Result.andThen_ok]
  have hfk : (Instr.findKey 9 (.string (mk t)) utilsA.toList).run Tryz.prog w = .ok ((utOf t).map fun k => (k - 43, utV k)) w := by
    unfold Instr.findKey
    simp [Sem.run_bind, run_underlying Tryz.underlying9, hff]
  rw [hfk]
  unfold utW
  cases utOf t with
  | none => simp
  | some f => simp
/-- a key more in the map -/
theorem uins {W : World} {M c : Nat} {es : Array MapEntry} (h : W.heap[M]? = some (.map es c)) (k : ByteArray) (v : Value) (hf : Instr.findNow .string (.string k) es.toList 0 = some none) :
    ∃ W', (Instr.mapUpdate 69 (.map (some M)) (.string k) v).run Tryz.prog W = .ok () W' ∧ W'.heap[M]? = some (.map (es.push ⟨.string k, v, c⟩) (c + 1)) ∧ W.grownBy W' (some M) := by
  have hlt : M < W.heap.size := by
    rcases Nat.lt_or_ge M W.heap.size with h1 | h1
    · exact h1
    · rw [Array.getElem?_eq_none h1] at h; cases h
  have hg : (getObj M).run Tryz.prog W = .ok (.map es c) W := by simp [getObj, Sem.run, h]
  have hck : (Instr.checkKey false 10000 9 (.string k)).run Tryz.prog W = .ok () W := by
    unfold Instr.checkKey
    simp [Sem.run_bind, run_underlying Tryz.underlying9]
  have hfk : (Instr.findKey 9 (.string k) es.toList).run Tryz.prog W = .ok none W := by
    unfold Instr.findKey
    simp [Sem.run_bind, run_underlying Tryz.underlying9, hf]
  refine ⟨{ W with heap := W.heap.setIfInBounds M (.map (es.push ⟨.string k, v, c⟩) (c + 1)) }, ?_, ?_, ⟨rfl, rfl, rfl, by simp, fun b _ hn => ?_⟩⟩
  · unfold Instr.mapUpdate
    simp only [Sem.run_bind, run_underlying Tryz.underlying69, Result.andThen_ok, hg, hck, hfk]
    simp [setObj, Sem.run, h]
  · simp [hlt]
  · have hne : M ≠ b := fun e => hn (by rw [e])
    simp [Array.getElem?_setIfInBounds_ne hne]
theorem grown_trans {a b c : World} {r : Option Nat} (h : a.grownBy b r) (k : b.grownBy c r) : a.grownBy c r :=
  ⟨k.os.trans h.os, k.tape.trans h.tape, k.output.trans h.output, Nat.le_trans h.size k.size, fun i hi hn => (k.block i (Nat.lt_of_lt_of_le hi h.size) hn).trans (h.block i hi hn)⟩
set_option maxRecDepth 100000 in
set_option maxHeartbeats 4000000 in
theorem utilities_any (w : World) :
    Calls Tryz.prog 26 #[] w fun e w' => e = .returned (.map (some w.heap.size)) ∧ Below w.heap.size w w' ∧ w'.heap[w.heap.size]? = some (.map utilsA 14) := by
  have hmm : ∀ W, (Instr.makeMap 69 none).run Tryz.prog W = .ok (.map (some W.heap.size)) (W.alloc (.map #[] 0)) := fun W => rfl
  have hb0 : Below w.heap.size w (w.alloc (.map #[] 0)) := (Below.refl _ _).alloc (Nat.le_refl _) _
  have m0 : (w.alloc (.map #[] 0)).heap[w.heap.size]? = some (.map #[] 0) := heap_alloc_new w _
  obtain ⟨w1, hr1, m1, g1⟩ := uins m0 ⟨#[116, 114, 117, 101]⟩ (utV 43) (by rfl)
  obtain ⟨w2, hr2, m2, g2⟩ := uins m1 ⟨#[102, 97, 108, 115, 101]⟩ (utV 44) (by rfl)
  obtain ⟨w3, hr3, m3, g3⟩ := uins m2 ⟨#[101, 99, 104, 111]⟩ (utV 45) (by rfl)
  obtain ⟨w4, hr4, m4, g4⟩ := uins m3 ⟨#[112, 114, 105, 110, 116, 102]⟩ (utV 46) (by rfl)
  obtain ⟨w5, hr5, m5, g5⟩ := uins m4 ⟨#[99, 97, 116]⟩ (utV 47) (by rfl)
  obtain ⟨w6, hr6, m6, g6⟩ := uins m5 ⟨#[99, 112]⟩ (utV 48) (by rfl)
  obtain ⟨w7, hr7, m7, g7⟩ := uins m6 ⟨#[109, 118]⟩ (utV 49) (by rfl)
  obtain ⟨w8, hr8, m8, g8⟩ := uins m7 ⟨#[114, 109]⟩ (utV 50) (by rfl)
  obtain ⟨w9, hr9, m9, g9⟩ := uins m8 ⟨#[116, 111, 117, 99, 104]⟩ (utV 51) (by rfl)
  obtain ⟨w10, hr10, m10, g10⟩ := uins m9 ⟨#[109, 107, 100, 105, 114]⟩ (utV 52) (by rfl)
  obtain ⟨w11, hr11, m11, g11⟩ := uins m10 ⟨#[116, 101, 115, 116]⟩ (utV 53) (by rfl)
  obtain ⟨w12, hr12, m12, g12⟩ := uins m11 ⟨#[91]⟩ (utV 54) (by rfl)
  obtain ⟨w13, hr13, m13, g13⟩ := uins m12 ⟨#[97, 114]⟩ (utV 55) (by rfl)
  obtain ⟨w14, hr14, m14, g14⟩ := uins m13 ⟨#[99, 99]⟩ (utV 56) (by rfl)
  have gall := grown_trans g1 (grown_trans g2 (grown_trans g3 (grown_trans g4 (grown_trans g5 (grown_trans g6 (grown_trans g7 (grown_trans g8 (grown_trans g9 (grown_trans g10 (grown_trans g11 (grown_trans g12 (grown_trans g13 (g14)))))))))))))
  have hb : Below w.heap.size w w14 := hb0.trans ⟨gall.os, gall.tape, gall.output, gall.size, fun b hb => gall.block b (Nat.lt_of_lt_of_le hb hb0.size) fun e => by have := Option.some.inj e; omega⟩
  have HE := hide' (And.intro hb m14)
  clear hb gall g1 g2 g3 g4 g5 g6 g7 g8 g9 g10 g11 g12 g13 g14 m0 m1 m2 m3 m4 m5 m6 m7 m8 m9 m10 m11 m12 m13 m14 hb0
  go_enter Tryz.func26, Tryz.ntmps26
  go_wp2
  go_ret
  exact ⟨rfl, HE.out⟩
end Go.Proofs.YtbfchadcpokjoaaGreatDoor
namespace Go.Proofs.YtbfchadcpokjoaaGreatDoor
open Go.RowKit

/-- a slice that reads as texts -/
def Txs (w : World) (v : Value) (L : List Bs) : Prop := (∃ a c, v = .slice a 0 c ∧ L = []) ∨ ∃ g o c, v = .slice (some ⟨g, o, none⟩) L.length c ∧ L.length ≤ c ∧ g < w.heap.size ∧ ∀ (i : Nat) x, L[i]? = some x → w.cell? ⟨g, o + i, none⟩ = some (.string (mk x))
theorem Txs.below {w w' : World} {v : Value} {L : List Bs} {n : Nat} (h : Txs w v L) (hb : Below n w w') (hn : w.heap.size ≤ n) : Txs w' v L := by
  rcases h with h | ⟨g, o, c, h1, h2, h3, h4⟩
  · exact .inl h
  · exact .inr ⟨g, o, c, h1, h2, Nat.lt_of_lt_of_le h3 hb.size, fun i x hx => (World.cell?_of_block (a := ⟨g, o + i, none⟩) (hb.block g (Nat.lt_of_lt_of_le h3 hn))).trans (h4 i x hx)⟩
theorem Txs.head {w : World} {v : Value} {x : Bs} {L : List Bs} (h : Txs w v (x :: L)) : ∃ g o c, v = .slice (some ⟨g, o, none⟩) (L.length + 1) c ∧ w.cell? ⟨g, o, none⟩ = some (.string (mk x)) ∧ g < w.heap.size := by
  rcases h with ⟨_, _, _, h⟩ | ⟨g, o, c, h1, h2, h3, h4⟩
  · cases h
  · exact ⟨g, o, c, h1, h4 0 x rfl, h3⟩
theorem info9 : (Tryz.prog.info? 9).map (fun i : TypeInfo => (i.zero, i.size, i.bytes)) = some (some (.string ⟨#[]⟩), 1, 16) := by kernel_rfl
theorem Txs.tail {w : World} {v : Value} {x : Bs} {L : List Bs} (h : Txs w v (x :: L)) :
    ∃ a c, (∀ W : World, (Instr.slice 24 v (some (.int .i64 1)) none none).run Tryz.prog W = .ok (.slice a L.length c) W) ∧ Txs w (.slice a L.length c) L := by
  obtain ⟨i, hi, hz0, hz1, hz2⟩ := info_parts info9
  rcases h with ⟨_, _, _, h⟩ | ⟨g, o, c, rfl, h2, h3, h4⟩
  · cases h
  · simp only [List.length_cons] at h2
    refine ⟨some (if c = 1 then ⟨g, o, none⟩ else ⟨g, o + 1, none⟩), c - 1, fun W => ?_, ?_⟩
    · by_cases hck : c = 1
      · simp [Instr.slice, Instr.sliceBounds, Instr.sliceBound, run_underlying Tryz.underlying24, asIntOf, sizeOf, typeInfo, hi, hck]; intro h; omega
      · simp [Instr.slice, Instr.sliceBounds, Instr.sliceBound, run_underlying Tryz.underlying24, asIntOf, sizeOf, typeInfo, hi, hz1, hck, Addr.add_lit]; intro h; omega
    · cases L with
      | nil => exact .inl ⟨_, _, rfl, rfl⟩
      | cons y r =>
        simp only [List.length_cons] at h2
        rw [if_neg (by omega)]
        exact .inr ⟨g, o + 1, c - 1, rfl, by simp only [List.length_cons]; omega, h3, fun j u hj => by
          have := h4 (j + 1) u (by simpa using hj)
          rw [show o + 1 + j = o + (j + 1) by omega]; exact this⟩
end Go.Proofs.YtbfchadcpokjoaaGreatDoor
namespace Go.Proofs.YtbfchadcpokjoaaGreatDoor
open Go.RowKit

/-- a call lies at C -/
def CallAt (w : World) (C : Nat) (fv y iv ov : Value) : Prop := w.heap[C]? = some (.cells #[fv, y, iv, ov] 73 (0, 0))
theorem mk_neq {a b : Bs} (h : a ≠ b) : (mk a == mk b) = false := by
  show (a.toArray == b.toArray) = false
  simp [h]
theorem mk_beq (a : Bs) : (mk a == mk a) = true := by
  show (a.toArray == a.toArray) = true
  simp
set_option maxRecDepth 100000 in
set_option maxHeartbeats 2000000 in
theorem option_yes (w : World) (C : Nat) (fv y iv ov : Value) (o : Bs) (L : List Bs) (h : CallAt w C fv y iv ov) (hy : Txs w y (o :: L)) :
    Calls Tryz.prog 78 #[.pointer (some ⟨C, 0, none⟩), .string (mk o)] w fun r w' => ∃ y', r = .returned (.bool true) ∧ w' = w.setCell ⟨C, 1, none⟩ y' ∧ Txs w y' L := by
  obtain ⟨g, p, c, hyy, hc0, hg⟩ := hy.head
  obtain ⟨ya, yc, hsl, hT⟩ := hy.tail
  subst hyy
  have c1 : w.cell? ⟨C, 1, none⟩ = some (.slice (some ⟨g, p, none⟩) (L.length + 1) c) := by rw [Lib.cell_of_heap h]; rfl
  have f1 := Lib.frozen_of_heap h 1
  have e := mk_beq o
  have hne : ((L.length : Int) + 1 == 0) = false := by simp; omega
  have HT := hide' hT
  clear h hT hy
  go_enter Tryz.func78, Tryz.ntmps78
  go_wp2
  go_ret
  exact ⟨_, rfl, rfl, HT.out⟩
set_option maxRecDepth 100000 in
set_option maxHeartbeats 2000000 in
theorem option_none (w : World) (C : Nat) (fv y iv ov : Value) (o : Bs) (h : CallAt w C fv y iv ov) (hy : Txs w y []) :
    Calls Tryz.prog 78 #[.pointer (some ⟨C, 0, none⟩), .string (mk o)] w fun r w' => r = .returned (.bool false) ∧ w' = w := by
  obtain ⟨a, c, rfl⟩ : ∃ a c, y = .slice a 0 c := by
    rcases hy with ⟨a, c, e, _⟩ | ⟨g, p, c, e, _⟩
    · exact ⟨a, c, e⟩
    · exact ⟨_, _, e⟩
  have c1 : w.cell? ⟨C, 1, none⟩ = some (.slice a 0 c) := by rw [Lib.cell_of_heap h]; rfl
  clear h hy
  go_enter Tryz.func78, Tryz.ntmps78
  go_wp2
  go_ret
  exact ⟨rfl, rfl⟩
set_option maxRecDepth 100000 in
set_option maxHeartbeats 2000000 in
theorem option_no (w : World) (C : Nat) (fv y iv ov : Value) (o x : Bs) (L : List Bs) (h : CallAt w C fv y iv ov) (hy : Txs w y (x :: L)) (hx : x ≠ o) :
    Calls Tryz.prog 78 #[.pointer (some ⟨C, 0, none⟩), .string (mk o)] w fun r w' => r = .returned (.bool false) ∧ w' = w := by
  obtain ⟨g, p, c, hyy, hc0, hg⟩ := hy.head
  subst hyy
  have c1 : w.cell? ⟨C, 1, none⟩ = some (.slice (some ⟨g, p, none⟩) (L.length + 1) c) := by rw [Lib.cell_of_heap h]; rfl
  have e : (x == o) = false := by simp [hx]
  have hne : ((L.length : Int) + 1 == 0) = false := by simp; omega
  clear h hy
  go_enter Tryz.func78, Tryz.ntmps78
  go_wp2
  go_ret
  exact ⟨rfl, rfl⟩
set_option maxRecDepth 100000 in
set_option maxHeartbeats 2000000 in
theorem met_ok (w : World) (p : Value) : Calls Tryz.prog 89 #[p, .int .i64 0] w fun r w' => r = .returned .nilIface ∧ w' = w := by
  go_enter Tryz.func89, Tryz.ntmps89
  go_wp2
  go_ret
  exact ⟨rfl, rfl⟩
set_option maxRecDepth 100000 in
set_option maxHeartbeats 2000000 in
theorem met_err (w : World) (s : ByteArray) (n : Int) (hn : n ≠ 0) : Calls Tryz.prog 89 #[.string s, .int .i64 n] w fun r w' => r = .returned (.iface 174 (.pointer (some ⟨w.heap.size, 0, none⟩))) ∧ w' = w.alloc (.cells #[.string s, .iface 37 (.int .i64 n)] 176) := by
  have e : (n == 0) = false := by simp [hn]
  go_enter Tryz.func89, Tryz.ntmps89
  go_wp2
  go_ret
  exact ⟨rfl, rfl⟩
end Go.Proofs.YtbfchadcpokjoaaGreatDoor
namespace Go.Proofs.YtbfchadcpokjoaaGreatDoor
open Go.RowKit

/-- an error or none, as a status is told by it -/
def Erd (r : Ending) (st b : Int) : Prop := (r = .returned .nilIface ∧ b = st) ∨ (∃ a, r = .returned (.iface 174 (.pointer (some a))) ∧ b = 1)
set_option maxRecDepth 100000 in
set_option maxHeartbeats 4000000 in
theorem each_any (w : World) (C : Nat) (fv y iv ov : Value) (L : List Bs) (k : Nat) (bs fs : Array Value) (h : CallAt w C fv y iv ov) (hl : L.length ≤ 100000) (hcf : ∀ (xs : Array Value) (W : World), (callFunc k xs).run Tryz.prog W = .ok (.enter k xs) W) (hy : Txs w y L) (J : Nat → Int → World → Prop) (hj0 : J 0 0 w)
    (hk : ∀ W i st, J i st W → Txs W y L ∧ (st = 0 ∨ st = 1))
    (hq : ∀ W i st x, J i st W → L[i]? = some x → Calls Tryz.prog k (bs.push (.string (mk x)) ++ fs) W fun r W' => ∃ b, Erd r st b ∧ J (i + 1) b W') :
    Calls Tryz.prog 82 #[.pointer (some ⟨C, 0, none⟩), .func (.func k) bs fs] w fun r w' => ∃ st, r = .returned (.int .i64 st) ∧ J L.length st w' := by
  obtain ⟨a, c, hyy⟩ : ∃ a c, y = .slice a L.length c := by
    rcases hy with ⟨a, c, e, rfl⟩ | ⟨g, p, c, e, _⟩
    · exact ⟨a, c, e⟩
    · exact ⟨_, _, e⟩
  have c1 : w.cell? ⟨C, 1, none⟩ = some (.slice a L.length c) := by rw [← hyy, Lib.cell_of_heap h]; rfl
  have HQ := hide' hq
  have HK := hide' hk
  clear h hq hk hy
  subst hyy
  go_enter Tryz.func82, Tryz.ntmps82
  go_wp2
  go_loopw [5, 13] (fun s i wr => ∃ (n : Nat) (st : Int), n ≤ L.length ∧ i = .int .i64 n ∧ s = .int .i64 st ∧ J n st wr) (fun _ i _ => L.length - (match i with | .int _ n => n.toNat | _ => 0))
  case atStart => exact ⟨0, 0, Nat.zero_le _, rfl, rfl, hj0⟩
  case round =>
    obtain ⟨n, st, hn, rfl, rfl, hJ⟩ := hrel
    by_cases hnl : n < L.length
    · have k1 : (n : Int) < L.length := by omega
      obtain ⟨x, hx⟩ : ∃ x, L[n]? = some x := ⟨_, List.getElem?_eq_getElem hnl⟩
      obtain ⟨g, o, hax, hcx⟩ : ∃ g o, a = some ⟨g, o, none⟩ ∧ wr.cell? ⟨g, o + n, none⟩ = some (.string (mk x)) := by
        rcases (HK.out _ _ _ hJ).1 with ⟨_, _, e, rfl⟩ | ⟨g, o, c', e, _, _, h4⟩
        · cases hx
        · cases e; exact ⟨g, o, rfl, h4 n x hx⟩
      subst hax
      have q := HQ.out _ _ _ _ hJ hx
      have HQ2 := hide' q
      clear q HQ HK hJ
      go_wp2_with fail
      refine HQ2.out.mono ?_
      rintro r w2 ⟨b, he, hJ2⟩
      rcases he with ⟨rfl, rfl⟩ | ⟨ad, rfl, rfl⟩
      · clear HQ2
        go_wp2
        go_roundw
        · exact ⟨n + 1, b, hnl, by simp, rfl, hJ2⟩
        · show L.length - ((n : Int) + 1).toNat < L.length - (n : Int).toNat
          omega
      · clear HQ2
        go_wp2
        go_roundw
        · exact ⟨n + 1, 1, hnl, by simp, rfl, hJ2⟩
        · show L.length - ((n : Int) + 1).toNat < L.length - (n : Int).toNat
          omega
    · obtain rfl : n = L.length := by omega
      clear HQ HK
      go_wp2
      go_ret
      exact ⟨_, rfl, hJ⟩
set_option maxRecDepth 100000 in
set_option maxHeartbeats 4000000 in
theorem some_any (w : World) (C : Nat) (fv y iv ov : Value) (L : List Bs) (k : Nat) (bs fs : Array Value) (h : CallAt w C fv y iv ov) (hl : L.length ≤ 100000) (hcf : ∀ (xs : Array Value) (W : World), (callFunc k xs).run Tryz.prog W = .ok (.enter k xs) W) (hy : Txs w y L) (hL : L ≠ []) (J : Nat → Int → World → Prop) (hj0 : J 0 0 w)
    (hk : ∀ W i st, J i st W → Txs W y L ∧ (st = 0 ∨ st = 1))
    (hq : ∀ W i st x, J i st W → L[i]? = some x → Calls Tryz.prog k (bs.push (.string (mk x)) ++ fs) W fun r W' => ∃ b, Erd r st b ∧ J (i + 1) b W') :
    Calls Tryz.prog 93 #[.pointer (some ⟨C, 0, none⟩), .func (.func k) bs fs] w fun r w' => ∃ st, r = .returned (.int .i64 st) ∧ J L.length st w' := by
  have q := each_any w C fv y iv ov L k bs fs h hl hcf hy J hj0 hk hq
  obtain ⟨a, c, hyy⟩ : ∃ a c, y = .slice a L.length c := by
    rcases hy with ⟨a, c, e, rfl⟩ | ⟨g, p, c, e, _⟩
    · exact ⟨a, c, e⟩
    · exact ⟨_, _, e⟩
  have c1 : w.cell? ⟨C, 1, none⟩ = some (.slice a L.length c) := by rw [← hyy, Lib.cell_of_heap h]; rfl
  have hne : ((L.length : Int) == 0) = false := by cases L with | nil => exact absurd rfl hL | cons x r => simp; omega
  have HQ := hide' q
  clear h hq hk hy q hL hcf
  go_enter Tryz.func93, Tryz.ntmps93
  go_wp2_with fail
  refine HQ.out.mono ?_
  rintro r w2 ⟨st, rfl, hJ⟩
  go_wp2
  go_ret
  exact ⟨_, rfl, hJ⟩
end Go.Proofs.YtbfchadcpokjoaaGreatDoor
namespace Go.Proofs.YtbfchadcpokjoaaGreatDoor
open Go.RowKit

theorem slice_all33 (a : Option Addr) {n c : Nat} (h : n ≤ c) (W : World) : (Instr.slice 33 (.slice a n c) none (some (.int .i64 n)) (some (.int .i64 n))).run Tryz.prog W = .ok (.slice a n n) W := by
  obtain ⟨i, hi, hz0, hz1, hz2⟩ := info_parts info5
  simp [Instr.slice, Instr.sliceBounds, Instr.sliceBound, run_underlying Tryz.underlying33, asIntOf, sizeOf, typeInfo, hi, h]
  intro _
  rcases a with _ | ⟨b, o, s⟩ <;> first | rfl | simp [Addr.add]
structure RuC (g o : Nat) (x : Bs) (w : World) : Prop where
  c0 : w.cell? ⟨g, o, none⟩ = some (.string (mk x))
set_option maxRecDepth 100000 in
set_option maxHeartbeats 4000000 in
theorem run_any (w : World) (fa : Addr) (ia : Option Addr) (il ic : Nat) (v : Value) (x : Bs) (L : List Bs) (k : Nat) (hk : utOf x = some k) (hcf : ∀ (xs : Array Value) (W : World), (callFunc k xs).run Tryz.prog W = .ok (.enter k xs) W) (hl : L.length ≤ 100000) (hv : Txs w v (x :: L)) (P : Option Addr → Nat → Int → World → Prop)
    (hq : ∀ (W : World) (C : Nat) (y : Value), Below w.heap.size w W → w.heap.size ≤ C → C + 1 = W.heap.size → W.heap[C]? = some (.cells #[.pointer (some fa), y, .slice ia il ic, .slice none 0 0] 73 (0, 0)) → Txs w y L →
      Calls Tryz.prog k #[.pointer (some ⟨C, 0, none⟩)] W fun r w' => ∃ st a n cap, r = .returned (.int .i64 st) ∧ n ≤ cap ∧ w'.cell? ⟨C, 3, none⟩ = some (.slice a n cap) ∧ P a n st w') :
    Calls Tryz.prog 16 #[.pointer (some fa), v, .slice ia il ic] w fun r w' => ∃ st a n w0, r = .returned (.tuple #[.slice a n n, .int .i64 st, .bool true]) ∧ P a n st w0 ∧ ∃ m, w' = w0.drewN m := by
  obtain ⟨g, o, c, hvv, hc0, hg⟩ := hv.head
  obtain ⟨ya, yc, hsl, hT⟩ := hv.tail
  subst hvv
  have hC0 : RuC g o x w.drew := ⟨hc0⟩
  have hu : utW x = utV k := by unfold utW; rw [hk]
  have hks : (utOf x).isSome = true := by rw [hk]; rfl
  have HC0 := hide' hC0
  have HT := hide' hT
  have HQ := hide' hq
  clear hC0 hT hq hv
  go_enter Tryz.func16, Tryz.ntmps16
  go_upto_region 3 with fail
  refine wp_region_classX [] (C := RuC g o x) (by kernel_rfl) ?_
  (refine wpAnyX_take (i := 1) (v := ?_) HC0.out rfl (by kernel_rfl) (by kernel_rfl) (by kernel_rfl) (by kernel_rfl) (fun _ _ _ h => h) (Or.inl ⟨by kernel_rfl, ?_⟩) ?_; rotate_left; (intro w hc; have k0 := hc.c0; clear hc; go_simp; try with_reducible rfl))
  (refine wpAnyX_take (i := 2) (v := ?_) HC0.out rfl (by kernel_rfl) (by kernel_rfl) (by kernel_rfl) (by kernel_rfl) (fun _ _ _ h => h) (Or.inl ⟨by kernel_rfl, ?_⟩) ?_; rotate_left; (intro w hc; have k0 := hc.c0; clear hc; go_simp; try with_reducible rfl))
  (refine wpAnyX_take (i := 3) (v := ?_) HC0.out rfl (by kernel_rfl) (by kernel_rfl) (by kernel_rfl) (by kernel_rfl) (fun _ _ _ h => h) (Or.inl ⟨by kernel_rfl, ?_⟩) ?_; rotate_left; (intro w hc; have k0 := hc.c0; clear hc; go_simp; try with_reducible rfl))
  go_simp
  refine wpAnyX_one (i := 0) (by kernel_rfl) (wpOp_wanted rfl (by rfl) ?_)
  go_simp
  refine (utilities_any _).mono ?_
  rintro r w1 ⟨rfl, hb1, hm1⟩
  have hb1' : Below w.heap.size w w1 := ⟨hb1.os, hb1.tape, hb1.output, hb1.size, hb1.block⟩
  have hC1 : RuC g o x w1 := ⟨(World.cell?_of_block (a := ⟨g, o, none⟩) (hb1'.block g hg)).trans hc0⟩
  have hlk : (Instr.lookup 69 (.map (some w.heap.size)) (.string (mk x)) true).run Tryz.prog w1 = .ok (.tuple #[utV k, .bool true]) w1 := by
    have := look_utils hm1 x
    rw [hu, hks] at this
    exact this
  have HB1 := hide' hb1'
  have HC1 := hide' hC1
  have hs1 := hb1'.size
  clear hb1 hm1 hb1' hC1
  refine ⟨HC1.out, ?_⟩
  refine wpAnyX_one (i := 4) (by kernel_rfl) (wpOp_wanted rfl (by rfl) ?_)
  go_simp
  refine ⟨HC1.out, ?_⟩
  refine wpAnyX_one (i := 5) (by kernel_rfl) (wpOp_wanted rfl (by rfl) ?_)
  go_simp
  refine ⟨HC1.out, ?_⟩
  (refine wpAnyX_take (i := 6) (v := ?_) HC1.out rfl (by kernel_rfl) (by kernel_rfl) (by kernel_rfl) (by kernel_rfl) (fun _ _ _ h => h) (Or.inl ⟨by kernel_rfl, ?_⟩) ?_; rotate_left; (intro w hc; clear hc; go_simp; try with_reducible rfl))
  go_simp
  (refine wpAnyX_take (i := 7) (v := ?_) HC1.out rfl (by kernel_rfl) (by kernel_rfl) (by kernel_rfl) (by kernel_rfl) (fun _ _ _ h => h) (Or.inl ⟨by kernel_rfl, ?_⟩) ?_; rotate_left; (intro w hc; clear hc; go_simp; try with_reducible rfl))
  go_simp
  refine wpAnyX_one (i := 8) (by kernel_rfl) (wpOp_wanted rfl (by rfl) ?_)
  go_simp
  refine ⟨HC1.out, ?_⟩
  refine wpAnyX_one (i := 9) (by kernel_rfl) (wpOp_wanted rfl (by rfl) ?_)
  go_simp
  refine ⟨HC1.out, ?_⟩
  refine wpAnyX_done (by kernel_rfl) ?_ _
  have HSL := hide' hlk
  clear hlk
  obtain ⟨W2, hW2⟩ : ∃ W2, W2 = w1.alloc (.cells #[.pointer (some fa), .slice ya L.length yc, .slice ia il ic, .slice none 0 0] 73) := ⟨_, rfl⟩
  have hb2 : Below w.heap.size w W2 := by rw [hW2]; exact HB1.out.alloc (Nat.le_trans (Nat.le_refl _) hs1) _
  have q := HQ.out W2 w1.heap.size (.slice ya L.length yc) hb2 hs1 (by rw [hW2]; simp) (by rw [hW2]; exact heap_alloc_new w1 _) HT.out
  have HQ2 := hide' q
  clear q hb2
  go_wp2_with fail
  rw [← hW2]
  refine HQ2.out.mono ?_
  rintro r w3 ⟨st, a3, n3, c3, rfl, hn3, hc3, hP⟩
  clear HQ2
  have hs3 := slice_all33 a3 hn3
  go_wp2
  go_quiet (fail)
  go_wp2_with fail
  refine bodyPost_ret (v := .tuple #[.slice a3 n3 n3, .int .i64 st, .bool true]) (by simp [results, Tryz.results16, go_sem]) rfl ?_
  exact ⟨st, a3, n3, w3, rfl, hP, _, rfl⟩
end Go.Proofs.YtbfchadcpokjoaaGreatDoor
