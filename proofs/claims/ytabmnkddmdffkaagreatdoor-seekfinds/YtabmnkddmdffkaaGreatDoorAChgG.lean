import Derived.Test.YtabmnkddmdffkaaGreatDoorAErr
import Derived.Test.YtabmnkddmdffkaaGreatDoorALookG
import Derived.Test.YtabmnkddmdffkaaGreatDoorARepG
import Derived.Test.YtabmnkddmdffkaaGreatDoorAWordG
import Derived.BigQuiet
import Derived.Test.YtabmnkddmdffkaaGreatDoorAMemG
import Derived.Test.YtabmnkddmdffkaaGreatDoorAPubG
namespace Go.Proofs.YtabmnkddmdffkaaGreatDoor.Sk
open Go.RowKit Go.Extern.Stop Go.Stop Go.Extern
theorem nIsF (v : Value) (xT : TypeId) (w : World) : (Instr.typeAssert (.iface 113 v) xT 148 true).run Tryz.prog w = .ok (.tuple #[.nilIface, .bool false]) w := run_typeAssert_lacksB Tryz.underlying148 (by kernel_rfl) (by kernel_rfl) v xT w
theorem hUnF (v : Value) (xT : TypeId) (w : World) : (Instr.typeAssert (.iface 113 v) xT 151 true).run Tryz.prog w = .ok (.tuple #[.iface 113 v, .bool true]) w := run_typeAssert_hasB Tryz.underlying151 (by kernel_rfl) v xT w
inductive AbN (w : World) (E : Addr) : Nat → Value → Prop where
 | one : AbN w E 0 (.iface 289 (.pointer (some E)))
 | wrap (d b : Nat) (p : ByteArray) (v : Value) : w.heap[b]? = some (.cells #[.string p, v] 115 (0, 0)) → AbN w E d v → AbN w E (d + 1) (.iface 113 (.pointer (some ⟨b, 0, none⟩)))
theorem abn_below {w w' : World} {E : Addr} {d : Nat} {v : Value} (h : AbN w E d v) (hb : Below w.heap.size w w') : AbN w' E d v := by
 induction h with
 | one => exact .one
 | wrap d b p v hx _ ih => exact .wrap d b p v ((hb.block b (lt_of_block hx)).trans hx) ih
def Ab (w : World) (E : Addr) (v : Value) : Prop := AbN w E 0 v ∨ AbN w E 1 v ∨ AbN w E 2 v
set_option maxHeartbeats 1000000 in
theorem is_one (b : Addr) (w : World) :
  Calls Tryz.prog 29 #[.iface 289 (.pointer (some b)), .iface 289 (.pointer (some b))] w fun e w' => e = .returned (.bool true) ∧ w' = w := by
 obtain ⟨i, hi, hcmp⟩ := Option.map_eq_some_iff.1 Tryz.isComp
 obtain ⟨j, hj, hjs⟩ := Option.map_eq_some_iff.1 Tryz.isSize
 have h90 := @run_callFunc_extern Tryz.prog 58 _ Extern.ReflectliteType.typeOf Tryz.func58 (by kernel_rfl) (by kernel_rfl) (by kernel_rfl) (by kernel_rfl)
 have h177 := Tryz.call177
 have tT := Tryz.isTypeOf
 have mR := Tryz.isMethodComparable
 have heq := run_eql_iface_ptr_same (P := Tryz.prog) w b Tryz.underlying62 Tryz.underlying289 hi hcmp hj
 go_enter Tryz.func29, Tryz.ntmps29
 go_wp2
 refine wp_loop_rounds 1 ?_
 rw [rounds_succ]
 go_wp2
 go_ret
 exact ⟨rfl, rfl⟩
theorem mUnF (v : Value) (w : World) : (Go.method 428 113 v "Unwrap").run Tryz.prog w = .ok (254, v) w := by kernel_rfl
set_option maxHeartbeats 1000000 in
theorem is_w1 (pb : Nat) (b : Addr) (w : World) (h1 : w.cell? ⟨pb, 1, none⟩ = some (.iface 289 (.pointer (some b)))) :
  Calls Tryz.prog 29 #[.iface 113 (.pointer (some ⟨pb, 0, none⟩)), .iface 289 (.pointer (some b))] w fun e w' => e = .returned (.bool true) ∧ w' = w := by
 obtain ⟨i, hi, hcmp⟩ := Option.map_eq_some_iff.1 Tryz.isComp
 obtain ⟨j, hj, hjs⟩ := Option.map_eq_some_iff.1 Tryz.isSize
 have h90 := @run_callFunc_extern Tryz.prog 58 _ Extern.ReflectliteType.typeOf Tryz.func58 (by kernel_rfl) (by kernel_rfl) (by kernel_rfl) (by kernel_rfl)
 have h177 := Tryz.call177
 have tT := Tryz.isTypeOf
 have mR := Tryz.isMethodComparable
 have nW := nIsF
 have uW := hUnF
 have mU := mUnF
 have heq := run_eql_iface_ptr_same (P := Tryz.prog) w b Tryz.underlying62 Tryz.underlying289 hi hcmp hj
 have hty := run_eql_iface_types (P := Tryz.prog) 113 289 (.pointer (some ⟨pb, 0, none⟩)) (.pointer (some b)) Tryz.underlying62 (by decide) w
 go_enter Tryz.func29, Tryz.ntmps29
 go_wp2
 refine wp_loop_rounds 2 ?_
 rw [rounds_succ]
 go_wp2
 rw [rounds_succ]
 go_wp2
 go_ret
 exact ⟨rfl, rfl⟩
set_option maxHeartbeats 1000000 in
theorem is_w2 (pb pc : Nat) (b : Addr) (w : World) (h1 : w.cell? ⟨pb, 1, none⟩ = some (.iface 113 (.pointer (some ⟨pc, 0, none⟩)))) (h2 : w.cell? ⟨pc, 1, none⟩ = some (.iface 289 (.pointer (some b)))) :
  Calls Tryz.prog 29 #[.iface 113 (.pointer (some ⟨pb, 0, none⟩)), .iface 289 (.pointer (some b))] w fun e w' => e = .returned (.bool true) ∧ w' = w := by
 obtain ⟨i, hi, hcmp⟩ := Option.map_eq_some_iff.1 Tryz.isComp
 obtain ⟨j, hj, hjs⟩ := Option.map_eq_some_iff.1 Tryz.isSize
 have h90 := @run_callFunc_extern Tryz.prog 58 _ Extern.ReflectliteType.typeOf Tryz.func58 (by kernel_rfl) (by kernel_rfl) (by kernel_rfl) (by kernel_rfl)
 have h177 := Tryz.call177
 have tT := Tryz.isTypeOf
 have mR := Tryz.isMethodComparable
 have nW := nIsF
 have uW := hUnF
 have mU := mUnF
 have heq := run_eql_iface_ptr_same (P := Tryz.prog) w b Tryz.underlying62 Tryz.underlying289 hi hcmp hj
 have hty := run_eql_iface_types (P := Tryz.prog) 113 289 (.pointer (some ⟨pb, 0, none⟩)) (.pointer (some b)) Tryz.underlying62 (by decide) w
 have hty2 := run_eql_iface_types (P := Tryz.prog) 113 289 (.pointer (some ⟨pc, 0, none⟩)) (.pointer (some b)) Tryz.underlying62 (by decide) w
 go_enter Tryz.func29, Tryz.ntmps29
 go_wp2
 refine wp_loop_rounds 3 ?_
 rw [rounds_succ]
 go_wp2
 rw [rounds_succ]
 go_wp2
 rw [rounds_succ]
 go_wp2
 go_ret
 exact ⟨rfl, rfl⟩
theorem c1_of {w : World} {b : Nat} {x v : Value} (h : w.heap[b]? = some (.cells #[x, v] 115 (0, 0))) : w.cell? ⟨b, 1, none⟩ = some v := by rw [Lib.cell_of_heap h]; rfl
theorem is_ab (E : Addr) (v : Value) (w : World) (h : Ab w E v) : Calls Tryz.prog 29 #[v, .iface 289 (.pointer (some E))] w fun e w' => e = .returned (.bool true) ∧ w' = w := by
 rcases h with h | h | h
 ·cases h with
  | one => exact is_one E w
 ·cases h with
  | wrap d b p v hx hv =>
   cases hv with
   | one => exact is_w1 b E w (c1_of hx)
 ·cases h with
  | wrap d b p v hx hv =>
   cases hv with
   | wrap d b2 p2 v2 hx2 hv2 =>
    cases hv2 with
    | one => exact is_w2 b b2 E w (c1_of hx) (c1_of hx2)
structure Gl (B : Nat) (w : World) (Ea E : Addr) : Prop where
 ca : w.cell? ⟨0, 0, none⟩ = some (.iface 289 (.pointer (some Ea)))
 glo : Glo B w E
 mx : Sk.Mx w
 lo : 4 < B
theorem Gl.keep {B : Nat} {Ea E : Addr} {w w' : World} (h : Gl B w Ea E) (hb : Below B w w') : Gl B w' Ea E :=
 ⟨(hb.cell (p := ⟨0, 0, none⟩) (by have := h.lo; simp only; omega)).trans h.ca, h.glo.keep hb, h.mx.keep hb h.lo, h.lo⟩
end Go.Proofs.YtabmnkddmdffkaaGreatDoor.Sk
namespace Go.Proofs.YtabmnkddmdffkaaGreatDoor.Sk
open Go.RowKit Go.Shelf Tx
def fo : List UInt8 → Nat
 | [] => 0
 | c :: r => if c = 40 then 0 else fo r + 1
theorem fo_le (l : List UInt8) : fo l ≤ l.length := by
 induction l with
 | nil => exact Nat.le_refl _
 | cons c r ih => simp only [fo]; split <;> simp <;> omega
theorem fo_step (l : List UInt8) (k : Nat) (hk : k < l.length) (h : l[k] ≠ 40) : fo (l.drop k) = fo (l.drop (k + 1)) + 1 := by
 rw [List.drop_eq_getElem_cons hk]
 simp only [fo, if_neg h]
theorem fo_hit (l : List UInt8) (k : Nat) (hk : k < l.length) (h : l[k] = 40) : fo (l.drop k) = 0 := by
 rw [List.drop_eq_getElem_cons hk]
 simp only [fo, if_pos h]
def shut (s : List UInt8) : Bool := s.getLast? == some 41
def bod (s : List UInt8) : List UInt8 := s.dropLast
def isM (s : List UInt8) : Bool := shut s && decide (0 < fo (bod s)) && decide (fo (bod s) < (bod s).length)
def pA (s : List UInt8) : List UInt8 := if isM s then (bod s).take (fo (bod s)) else []
def pM (s : List UInt8) : List UInt8 := if isM s then (bod s).drop (fo (bod s) + 1) else []
abbrev prV (s : List UInt8) : Value := .tuple #[.string (mk (pA s)), .string (mk (pM s)), .bool (isM s)]
theorem hasSuffix_one (s : List UInt8) : Lib.hasSuffix s [41] = shut s := by
 unfold Lib.hasSuffix shut
 rcases List.eq_nil_or_concat s with rfl | ⟨r, c, rfl⟩
 ·rfl
 ·rw [List.concat_eq_append, List.getLast?_append]
  by_cases h : c = 41
  ·subst h
   have h1 : [(41 : UInt8)].isSuffixOf (r ++ [41]) = true := List.isSuffixOf_iff_suffix.2 ⟨r, rfl⟩
   rw [h1]; rfl
  ·have h1 : [(41 : UInt8)].isSuffixOf (r ++ [c]) = false := by
    cases hx : [(41 : UInt8)].isSuffixOf (r ++ [c]) with
    | false => rfl
    | true =>
     obtain ⟨q, hq⟩ := List.isSuffixOf_iff_suffix.1 hx
     have := (List.append_inj' hq rfl).2
     exact absurd (by simpa using this.symm) h
   have h2 : ((some c : Option UInt8) == some 41) = false := by simpa using h
   rw [h1]
   simp [h2]
theorem trim_one (s : List UInt8) (h : shut s = true) : Lib.trimSuffix s [41] = bod s := by
 unfold Lib.trimSuffix bod
 rw [hasSuffix_one, if_pos h, List.dropLast_eq_take]; rfl
theorem cutS (s : ByteArray) (hs : s.size ≤ 1000000) (w : World) : Calls Tryz.prog 67 #[.string s, .string ⟨#[41]⟩] w fun e w' =>
  e = .returned (.tuple #[.string (if shut (tl s) then mk (bod (tl s)) else s), .bool (shut (tl s))]) ∧ w' = w := by
 refine (Tryz.strings_CutSuffix s ⟨#[41]⟩ w (by omega)).mono ?_
 rintro e w' ⟨rfl, rfl⟩
 refine ⟨?_, rfl⟩
 rw [show (⟨#[41]⟩ : ByteArray).data.toList = [41] from rfl, hasSuffix_one]
 cases h : shut (tl s) with
 | true =>
  have ht : Lib.trimSuffix s.data.toList [41] = bod (tl s) := trim_one _ h
  rw [show shut s.data.toList = true from h, ht]; rfl
 | false =>
  rw [show shut s.data.toList = false from h]
  unfold Lib.trimSuffix
  rw [hasSuffix_one, show shut s.data.toList = false from h]; rfl
set_option maxRecDepth 100000 in
set_option maxHeartbeats 1000000 in
theorem parted_any (s : ByteArray) (hs : s.size ≤ 1000000) (w : World) :
  Calls Tryz.prog 38 #[.string s] w fun e w' => e = .returned (prV (tl s)) ∧ Below w.heap.size w w' := by
 have q := cutS s hs
 cases h : shut (tl s) with
 | false =>
  have h1 : prV (tl s) = .tuple #[.string ⟨#[]⟩, .string ⟨#[]⟩, .bool false] := by
   have : isM (tl s) = false := by unfold isM; rw [h]; rfl
   unfold prV pA pM
   rw [this]; rfl
  rw [h1]
  rw [h] at q
  simp only [Bool.false_eq_true, if_false] at q
  clear h h1
  go_enter Tryz.func38, Tryz.ntmps38
  go_wp2
  go_step3
  go_wp2_with fail
  refine (q _).mono ?_
  rintro e w1 ⟨rfl, rfl⟩
  go_wp2_with fail
  simp only [Exit.noGoto]
  refine bodyPost_ret (by simp [results, Tryz.results38, go_sem]; rfl) rfl ?_
  exact ⟨rfl, Below.refl _ _⟩
 | true =>
  rw [h] at q
  simp only [if_true] at q
  obtain ⟨r, hr⟩ : ∃ r, r = mk (bod (tl s)) := ⟨_, rfl⟩
  have hrl : tl r = bod (tl s) := by rw [hr, tl_mk]
  rw [← hr] at q
  have hrs : r.size ≤ 1000000 := by rw [← tl_len, hrl]; unfold bod; rw [List.length_dropLast, tl_len]; omega
  have hM : isM (tl s) = (decide (0 < fo (tl r)) && decide (fo (tl r) < (tl r).length)) := by unfold isM; rw [h, hrl]; simp
  have hV : prV (tl s) = if isM (tl s) then .tuple #[.string (mk ((tl r).take (fo (tl r)))), .string (mk ((tl r).drop (fo (tl r) + 1))), .bool true] else .tuple #[.string ⟨#[]⟩, .string ⟨#[]⟩, .bool false] := by
   unfold prV pA pM
   rw [← hrl]
   cases hm : isM (tl s) <;> rfl
  rw [hV, hM]
  clear hV hM hrl hr h
  have HR := hide' hrs
  obtain ⟨RES, hRES⟩ : ∃ RES : Value, RES = (if (decide (0 < fo (tl r)) && decide (fo (tl r) < (tl r).length)) = true then Value.tuple #[.string (mk ((tl r).take (fo (tl r)))), .string (mk ((tl r).drop (fo (tl r) + 1))), .bool true] else .tuple #[.string ⟨#[]⟩, .string ⟨#[]⟩, .bool false]) := ⟨_, rfl⟩
  rw [← hRES]
  have HRES := hide' hRES
  clear hRES
  have hsz : (tl r).length = r.size := tl_len r
  have HFO : Hid (fo (tl r) = 0 + fo ((tl r).drop 0)) := by show _ = _; rw [List.drop_zero, Nat.zero_add]
  have HSZ := hide' hsz
  have hle := hide' (fo_le (tl r))
  clear hsz
  go_enter Tryz.func38, Tryz.ntmps38
  go_wp2
  go_step3
  go_wp2_with fail
  refine (q _).mono ?_
  rintro e w1 ⟨rfl, rfl⟩
  clear q
  go_wp2_with fail
  go_step3
  go_wp2
  go_loopw [17] (fun i wr => ∃ k : Nat, k ≤ r.size ∧ i = .int .i64 k ∧ wr = w1 ∧ Hid (fo (tl r) = k + fo ((tl r).drop k))) (fun i _ => r.size - (intOf i).toNat)
  case atStart => exact ⟨0, Nat.zero_le _, rfl, rfl, HFO⟩
  case round =>
   obtain ⟨k, hk, rfl, rfl, HK⟩ := hrel
   by_cases hlt : k < r.size
   ·have hkl : k < (tl r).length := by have := HSZ.out; omega
    have hg : (tl r)[k] = r[k] := by simp [tl]; rfl
    by_cases h1 : r[k] = 40
    ·have k1 := beq_yes _ _ _ (rfl : (40 : UInt8).toNat = 40) h1
     have k2 : (r[k].toNat : Int) = 40 := by rw [h1]; rfl
     have hE : fo (tl r) = k := HK.out.trans (by rw [fo_hit _ k hkl (hg.trans h1), Nat.add_zero])
     by_cases h0 : k = 0
     ·have hR : RES = .tuple #[.string ⟨#[]⟩, .string ⟨#[]⟩, .bool false] := by rw [HRES.out, hE, h0]; rfl
      have HR2 := hide' hR
      clear HK h1 hg hE hR
      subst h0
      go_wp2
      simp only [Exit.noGoto]
      refine bodyPost_ret (by simp [results, Tryz.results38, go_sem]; rfl) rfl ?_
      exact ⟨by rw [HR2.out], Below.refl _ _⟩
     ·have hR : RES = .tuple #[.string (r.extract 0 k), .string (r.extract (k + 1) r.size), .bool true] := by
       rw [HRES.out, hE, if_pos (by simp; omega)]
       have e1 : mk ((tl r).take k) = r.extract 0 k := tl_inj _ _ (by rw [tl_mk]; simp [tl])
       have e2 : mk ((tl r).drop (k + 1)) = r.extract (k + 1) r.size := tl_inj _ _ (by rw [tl_mk]; unfold tl; rw [Lib.extract_data, List.take_of_length_le]; rw [List.length_drop]; exact Nat.le_refl _)
       rw [e1, e2]
      have HR2 := hide' hR
      clear HK h1 hg hE hR
      go_wp2
      go_quiet (fail)
      simp only [Exit.then]
      go_wp2
      simp only [Exit.noGoto]
      refine bodyPost_ret (by simp [results, Tryz.results38, go_sem]; rfl) rfl ?_
      exact ⟨by rw [HR2.out], below_drewn _⟩
    ·have k1 := beq_no _ _ _ (rfl : (40 : UInt8).toNat = 40) h1
     have k2 : ¬ (r[k].toNat : Int) = 40 := fun e => h1 (UInt8.toNat_inj.1 (by have : (40 : UInt8).toNat = 40 := rfl; omega))
     have HE := hide' (HK.out.trans (by rw [fo_step _ k hkl (by rw [hg]; exact h1)]; omega : _ = (k + 1) + fo ((tl r).drop (k + 1))))
     clear HK h1 hg
     go_wp2
     exact ⟨⟨k + 1, by omega, by go_num, trivial, HE⟩, by simp [intOf]; omega⟩
   ·have hR : RES = .tuple #[.string ⟨#[]⟩, .string ⟨#[]⟩, .bool false] := by
     have h2 : fo (tl r) = k := by rw [HK.out, List.drop_of_length_le (by rw [HSZ.out]; omega)]; rfl
     have h3 := HSZ.out
     rw [HRES.out, h2, if_neg (by simp only [Bool.and_eq_true, decide_eq_true_eq]; omega)]
    have HR2 := hide' hR
    clear hR HK
    go_wp2
    simp only [Exit.noGoto]
    refine bodyPost_ret (by simp [results, Tryz.results38, go_sem]; rfl) rfl ?_
    exact ⟨by rw [HR2.out], Below.refl _ _⟩
end Go.Proofs.YtabmnkddmdffkaaGreatDoor.Sk
namespace Go.Proofs.YtabmnkddmdffkaaGreatDoor.Sk
open Go.RowKit Go.Shelf
def DtV (w' : World) (Ea : Addr) (r : Ending) : Option Int → Prop
 | some t => r = .returned (.tuple #[.int .i64 t, .nilIface])
 | none => ∃ v, r = .returned (.tuple #[.int .i64 0, v]) ∧ (AbN w' Ea 0 v ∨ AbN w' Ea 1 v)
def ChV (w' : World) (Ea : Addr) (r : Ending) : Option Int → Prop
 | some t => r = .returned (.tuple #[.int .i64 t, .nilIface])
 | none => ∃ v, r = .returned (.tuple #[.int .i64 0, v]) ∧ Ab w' Ea v
def stT (T : Tr) (p : Bs) : Option Int := if (statR T p).1 = 0 then none else some (statR T p).2.1
set_option maxRecDepth 100000 in
set_option maxHeartbeats 1000000 in
theorem dated_plain (A : Nat) (Ea : Addr) (s : ByteArray) (hs : s.size ≤ 1000000) (hm : isM (tl s) = false) (w : World) (ha : w.cell? ⟨0, 0, none⟩ = some (.iface 289 (.pointer (some Ea)))) (hl : 0 < w.heap.size) :
  Calls Tryz.prog 62 #[.pointer (some ⟨A, 0, none⟩), .string s] w fun e w' => DtV w' Ea e none ∧ Below w.heap.size w w' := by
 have q := parted_any s hs w
 rw [show prV (tl s) = .tuple #[.string ⟨#[]⟩, .string ⟨#[]⟩, .bool false] by unfold prV pA pM; rw [hm]; rfl] at q
 clear hm
 go_enter Tryz.func62, Tryz.ntmps62
 go_wp2_with fail
 refine q.mono ?_
 rintro e w1 ⟨rfl, hb⟩
 have ha1 := (hb.cell (p := ⟨0, 0, none⟩) hl).trans ha
 clear q ha
 go_wp2_with fail
 go_quiet (fail)
 go_wp2_with fail
 refine bodyPost_ret (by simp [results, Tryz.results62, go_sem]; rfl) rfl ?_
 exact ⟨⟨_, rfl, .inl .one⟩, hb.trans (below_drewn _)⟩
set_option maxRecDepth 100000 in
set_option maxHeartbeats 1000000 in
theorem changed_of (B A : Nat) (Ea E : Addr) (T : Tr) (clk rm : Int) (s : ByteArray) (hs : s.size ≤ 400000) (S : Nat → Prop) (w : World) (h : IsFs w S A T clk rm) (hG : Gl B w Ea E) (hB : B ≤ w.heap.size)
  (d : Option Int) (hD : Calls Tryz.prog 62 #[.pointer (some ⟨A, 0, none⟩), .string s] w fun e w' => DtV w' Ea e d ∧ Below w.heap.size w w') :
  Calls Tryz.prog 34 #[.pointer (some ⟨A, 0, none⟩), .string s] w fun e w' => ChV w' Ea e (d.or (stT T (clean (tl s)))) ∧ Below w.heap.size w w' := by
 have h0 : 0 < w.heap.size := by have := hG.lo; omega
 cases d with
 | some t =>
  have q2 := is_nil Ea
  have ha := hG.ca
  go_enter Tryz.func34, Tryz.ntmps34
  go_wp2_with fail
  refine hD.mono ?_
  rintro e w1 ⟨rfl, hb⟩
  have ha1 := (hb.cell (p := ⟨0, 0, none⟩) h0).trans ha
  clear ha hD hG h
  go_wp2_with fail
  refine (q2 _).mono ?_
  rintro e w2 ⟨rfl, rfl⟩
  go_wp2_with fail
  refine bodyPost_ret (by simp [results, Tryz.results34, go_sem]; rfl) rfl ?_
  exact ⟨rfl, hb⟩
 | none =>
  have q3 := fun w1 (hb : Below w.heap.size w w1) => Stat_any B A E T clk rm s S w1 (h.below hb) (hG.glo.keep (hb.mono hB)) (Nat.le_trans hB hb.size) hs
  have ha := hG.ca
  obtain ⟨x, hx⟩ : ∃ x, x = statR T (clean (tl s)) := ⟨_, rfl⟩
  have hst : (none : Option Int).or (stT T (clean (tl s))) = if x.1 = 0 then none else some x.2.1 := by rw [hx]; rfl
  rw [hst]
  rw [← hx] at q3
  clear hst hx
  obtain ⟨x1, x2, x3⟩ := x
  simp only [statV] at q3
  obtain ⟨o, ho⟩ : ∃ o : Option Int, o = if x1 = 0 then none else some x2 := ⟨_, rfl⟩
  rw [show (if ((x1, x2, x3) : Int × Int × Int).1 = 0 then none else some ((x1, x2, x3) : Int × Int × Int).2.1) = o from ho.symm]
  have HO := hide' ho
  clear ho
  clear h hG
  go_enter Tryz.func34, Tryz.ntmps34
  go_wp2_with fail
  refine hD.mono ?_
  rintro e w1 ⟨⟨v, rfl, hv⟩, hb⟩
  obtain ⟨ty, b, rfl⟩ : ∃ ty b, v = .iface ty (.pointer (some b)) := by
   rcases hv with h | h <;> cases h <;> exact ⟨_, _, rfl⟩
  have hab : Ab w1 Ea (.iface ty (.pointer (some b))) := by rcases hv with h | h; exact .inl h; exact .inr (.inl h)
  have ha1 := (hb.cell (p := ⟨0, 0, none⟩) h0).trans ha
  have q2 := is_ab Ea _ w1 hab
  have q4 := q3 w1 hb
  have HV := hide' hv
  clear ha hD q3 hab hv
  go_wp2_with fail
  refine q2.mono ?_
  rintro e w2 ⟨rfl, rfl⟩
  clear q2
  go_wp2_with fail
  refine q4.mono ?_
  rintro e w3 ⟨rfl, hb3⟩
  clear q4 ha1
  by_cases hx1 : x1 = 0
  ·have HO2 := hide' (HO.out.trans (if_pos hx1))
   clear HO
   subst hx1
   go_wp2_with fail
   refine bodyPost_ret (by simp [results, Tryz.results34, go_sem]; rfl) rfl ?_
   have hb4 : Below w2.heap.size w2 (w3.alloc (Obj.cells #[Value.int IntKind.i64 0, Value.int IntKind.i64 x2, Value.int IntKind.i64 x3] 88)) := hb3.trans (((Below.refl _ w3).alloc (Nat.le_refl _) _).mono hb3.size)
   have hb5 := hb4.alloc hb4.size (Obj.cells #[Value.string s, .iface ty (.pointer (some b))] 115)
   rw [HO2.out]
   refine ⟨⟨_, rfl, ?_⟩, hb.trans (hb5.mono hb.size)⟩
   have hnew := World.alloc_heap_new (w3.alloc (Obj.cells #[Value.int IntKind.i64 0, Value.int IntKind.i64 x2, Value.int IntKind.i64 x3] 88)) (Obj.cells #[Value.string s, .iface ty (.pointer (some b))] 115)
   rw [World.size_alloc] at hnew
   rcases HV.out with hv | hv
   ·exact .inr (.inl (.wrap 0 _ s _ hnew (abn_below hv hb5)))
   ·exact .inr (.inr (.wrap 1 _ s _ hnew (abn_below hv hb5)))
  ·have HO2 := hide' (HO.out.trans (if_neg hx1))
   clear HO
   go_wp2_with fail
   refine bodyPost_ret (by simp [results, Tryz.results34, go_sem]; rfl) rfl ?_
   rw [HO2.out]
   exact ⟨rfl, hb.trans ((hb3.trans (((Below.refl _ w3).alloc (Nat.le_refl _) _).mono hb3.size)).mono hb.size)⟩
end Go.Proofs.YtabmnkddmdffkaaGreatDoor.Sk
