/- The contracts of errors.Is at the errors that package ar makes, and of ar.number. The contract of ar.check. Of no program: how many bytes an archive has. Of no program: a region that draws its order, in a class of worlds that all its operations keep: an operation that yields one value in every world of the class may be taken at once. -/
import Derived.Test.YtbfchadcpokjoaaGreatDoorARa
import Derived.LaidEql
import Derived.Lib.IfaceEq
import Derived.Stop.Asserts
import Derived.RowKitTokens
import Derived.Test.YtbfchadcpokjoaaGreatDoorARb
import Derived.Orders
import Derived.RegionCalls
namespace Go.Proofs.YtbfchadcpokjoaaGreatDoor.Arc
open Go.RowKit Go.Extern.Stop Go.Stop Go.Extern
set_option maxRecDepth 100000

theorem Tryz.isTypeOf (v : Value) (w : World) : (Extern.ReflectliteType.typeOf #[.iface 37 v]).run Tryz.prog w = .ok (.iface 152 (.agg #[.pointer (some ⟨11, 37, none⟩)])) w := by kernel_rfl
theorem Tryz.call134 (w : World) : (callFunc 286 #[.agg #[.pointer (some ⟨11, 37, none⟩)]]).run Tryz.prog w = .ok (.value (.bool true)) w := by kernel_rfl
theorem Tryz.isMethodComparable (v : Value) (w : World) : (Go.method 421 152 v "Comparable").run Tryz.prog w = .ok (286, v) w := by kernel_rfl
theorem Tryz.noIsN (v : Value) (xT : TypeId) (w : World) : (Instr.typeAssert (.iface 37 v) xT 154 true).run Tryz.prog w = .ok (.tuple #[.nilIface, .bool false]) w := run_typeAssert_lacksB Tryz.underlying154 (by kernel_rfl) (by kernel_rfl) v xT w
theorem Tryz.noUnwrapN (v : Value) (xT : TypeId) (w : World) : (Instr.typeAssert (.iface 37 v) xT 157 true).run Tryz.prog w = .ok (.tuple #[.nilIface, .bool false]) w := run_typeAssert_lacksB Tryz.underlying157 (by kernel_rfl) (by kernel_rfl) v xT w
theorem Tryz.noUnwrapsN (v : Value) (xT : TypeId) (w : World) : (Instr.typeAssert (.iface 37 v) xT 159 true).run Tryz.prog w = .ok (.tuple #[.nilIface, .bool false]) w := run_typeAssert_lacksB Tryz.underlying159 (by kernel_rfl) (by kernel_rfl) v xT w
theorem Tryz.noIsF (v : Value) (xT : TypeId) (w : World) : (Instr.typeAssert (.iface 242 v) xT 154 true).run Tryz.prog w = .ok (.tuple #[.nilIface, .bool false]) w := run_typeAssert_lacksB Tryz.underlying154 (by kernel_rfl) (by kernel_rfl) v xT w
theorem Tryz.hasUnwrapF (v : Value) (xT : TypeId) (w : World) : (Instr.typeAssert (.iface 242 v) xT 157 true).run Tryz.prog w = .ok (.tuple #[.iface 242 v, .bool true]) w := run_typeAssert_hasB Tryz.underlying157 (by kernel_rfl) v xT w
theorem Tryz.methodUnwrap (v : Value) (w : World) : (Go.method 421 242 v "Unwrap").run Tryz.prog w = .ok (298, v) w := by kernel_rfl
theorem Tryz.isComp : (Tryz.prog.info? 37).map (·.comparable) = some true := by kernel_rfl
theorem is_nil (n : Int) (w : World) : Calls Tryz.prog 36 #[.nilIface, .iface 37 (.int .i64 n)] w fun e w' => e = .returned (.bool false) ∧ w' = w := by
  have hn := run_eql_iface_nil_left (P := Tryz.prog) w 37 (.int .i64 n) Tryz.underlying55
  go_enter Tryz.func36, Tryz.ntmps36
  go_wp2
  go_ret
  exact ⟨rfl, rfl⟩
set_option maxHeartbeats 1000000 in
theorem is_flt (pb : Nat) (k n : Int) (w : World) (h1 : w.cell? ⟨pb, 1, none⟩ = some (.iface 37 (.int .i64 k))) :
    Calls Tryz.prog 36 #[.iface 242 (.pointer (some ⟨pb, 0, none⟩)), .iface 37 (.int .i64 n)] w fun e w' => e = .returned (.bool (k == n)) ∧ w' = w := by
  have h50 := @run_callFunc_extern Tryz.prog 65 _ Extern.ReflectliteType.typeOf Tryz.func65 (by kernel_rfl) (by kernel_rfl) (by kernel_rfl) (by kernel_rfl)
  have h134 := Tryz.call134
  have tT := Tryz.isTypeOf
  have mR := Tryz.isMethodComparable
  have nW := Tryz.noIsF
  have uW := Tryz.hasUnwrapF
  have mU := Tryz.methodUnwrap
  have nN := Tryz.noIsN
  have uN := Tryz.noUnwrapN
  have vN := Tryz.noUnwrapsN
  have hty := run_eql_iface_types (P := Tryz.prog) 242 37 (.pointer (some ⟨pb, 0, none⟩)) (.int .i64 n) Tryz.underlying55 (by decide) w
  have heq := Lib.run_eql_iface_int (P := Tryz.prog) (t := 55) (tx := 37) (k := .i64) w k n Tryz.underlying55 Tryz.isComp Tryz.underlying37
  cases hkn : (k == n) with
  | true =>
    rw [hkn] at heq
    go_enter Tryz.func36, Tryz.ntmps36
    go_wp2
    refine wp_loop_rounds 2 ?_
    rw [rounds_succ]
    go_wp2
    rw [rounds_succ]
    go_wp2
    go_ret
    exact ⟨rfl, rfl⟩
  | false =>
    rw [hkn] at heq
    go_enter Tryz.func36, Tryz.ntmps36
    go_wp2
    refine wp_loop_rounds 2 ?_
    rw [rounds_succ]
    go_wp2
    rw [rounds_succ]
    go_wp2
    go_ret
    exact ⟨rfl, rfl⟩
/-- an error, by its number: 0 is none -/
def IsE (w : World) (v : Value) (k : Nat) : Prop := (k = 0 ∧ v = .nilIface) ∨ k ≠ 0 ∧ ∃ pb p, v = .iface 242 (.pointer (some ⟨pb, 0, none⟩)) ∧ w.heap[pb]? = some (.cells #[p, .iface 37 (.int .i64 (k : Nat))] 244 (0, 0))
theorem is_any (v : Value) (k : Nat) (n : Nat) (hn : n ≠ 0) (w : World) (h : IsE w v k) : Calls Tryz.prog 36 #[v, .iface 37 (.int .i64 (n : Nat))] w fun e w' => e = .returned (.bool (decide (k = n))) ∧ w' = w := by
  rcases h with ⟨rfl, rfl⟩ | ⟨_, pb, p, rfl, hb⟩
  · have : decide (0 = n) = false := decide_eq_false (by omega)
    rw [this]
    exact is_nil n w
  · have := is_flt pb (k : Nat) (n : Nat) w (by rw [Lib.cell_of_heap hb]; rfl)
    have e : (((k : Nat) : Int) == ((n : Nat) : Int)) = decide (k = n) := by
      by_cases h : k = n
      · subst h; simp
      · rw [decide_eq_false h]; exact beq_eq_false_iff_ne.2 (by omega)
    rwa [e] at this
set_option maxHeartbeats 1000000 in
/-- number -/
theorem number_any (v : Value) (k : Nat) (w : World) (h : IsE w v k) (hk : k = 0 ∨ k = 1 ∨ k = 2 ∨ k = 20) : Calls Tryz.prog 185 #[v] w fun e w' => e = .returned (.int .i64 (k : Nat)) ∧ w' = w := by
  have q2 := is_any v k 2 (by decide) w h
  have q1 := is_any v k 1 (by decide) w h
  have q20 := is_any v k 20 (by decide) w h
  rcases hk with rfl | rfl | rfl | rfl
  · rw [show decide (0 = 2) = false from rfl] at q2
    rw [show decide (0 = 1) = false from rfl] at q1
    rw [show decide (0 = 20) = false from rfl] at q20
    clear h
    go_enter Tryz.func185, Tryz.ntmps185
    go_wp2_with fail
    refine q2.mono ?_
    rintro r w1 ⟨rfl, rfl⟩
    go_wp2_with fail
    refine q1.mono ?_
    rintro r w1 ⟨rfl, rfl⟩
    go_wp2_with fail
    refine q20.mono ?_
    rintro r w1 ⟨rfl, rfl⟩
    go_wp2
    go_ret
    exact ⟨rfl, rfl⟩
  · rw [show decide (1 = 2) = false from rfl] at q2
    rw [show decide (1 = 1) = true from rfl] at q1
    clear h q20
    go_enter Tryz.func185, Tryz.ntmps185
    go_wp2_with fail
    refine q2.mono ?_
    rintro r w1 ⟨rfl, rfl⟩
    go_wp2_with fail
    refine q1.mono ?_
    rintro r w1 ⟨rfl, rfl⟩
    go_wp2
    go_ret
    exact ⟨rfl, rfl⟩
  · rw [show decide (2 = 2) = true from rfl] at q2
    clear h q20 q1
    go_enter Tryz.func185, Tryz.ntmps185
    go_wp2_with fail
    refine q2.mono ?_
    rintro r w1 ⟨rfl, rfl⟩
    go_wp2
    go_ret
    exact ⟨rfl, rfl⟩
  · rw [show decide (20 = 2) = false from rfl] at q2
    rw [show decide (20 = 1) = false from rfl] at q1
    rw [show decide (20 = 20) = true from rfl] at q20
    clear h
    go_enter Tryz.func185, Tryz.ntmps185
    go_wp2_with fail
    refine q2.mono ?_
    rintro r w1 ⟨rfl, rfl⟩
    go_wp2_with fail
    refine q1.mono ?_
    rintro r w1 ⟨rfl, rfl⟩
    go_wp2_with fail
    refine q20.mono ?_
    rintro r w1 ⟨rfl, rfl⟩
    go_wp2
    go_ret
    exact ⟨rfl, rfl⟩
end Go.Proofs.YtbfchadcpokjoaaGreatDoor.Arc
namespace Go.Proofs.YtbfchadcpokjoaaGreatDoor.Arc
open Go.RowKit Go.Maps Go.Shelf
set_option maxRecDepth 100000

theorem isE_new (W : World) (p : Int) (k : Nat) (hk : k ≠ 0) : IsE (W.alloc (.cells #[.int .i64 p, .iface 37 (.int .i64 (k : Nat))] 244)) (.iface 242 (.pointer (some ⟨W.heap.size, 0, none⟩))) k := .inr ⟨hk, _, _, rfl, alloc_new _ _⟩
theorem wrong_ok {ms : List Mv} (h1 : ms.length ≤ 5000) (h2 : lenA ms ≤ 65536) (h3 : ms.all okM = true) : wrongR ms = 0 := by unfold wrongR; rw [if_neg (by omega), if_pos h3]
theorem wrong_bad {ms : List Mv} (h1 : ms.length ≤ 5000) (h2 : lenA ms ≤ 65536) {m : Mv} (hm : m ∈ ms) (h3 : okM m = false) : wrongR ms = 1 := by
  unfold wrongR
  rw [if_neg (by omega), if_neg (fun h => by rw [List.all_eq_true] at h; rw [h m hm] at h3; cases h3)]
theorem wrong_long {ms : List Mv} (h : 5000 < ms.length ∨ 65536 < lenA ms) : wrongR ms = 2 := by unfold wrongR; rw [if_pos h]
/-- a list that is not too great for arithmetic -/
def Fine (ms : List Mv) : Prop := ms.length ≤ 1099511627776 ∧ lenA ms ≤ 1099511627776 ∧ ∀ m ∈ ms, m.name.length ≤ 1000000
set_option maxRecDepth 100000 in
set_option maxHeartbeats 4000000 in
theorem check_row (g o cap : Nat) (ms : List Mv) (w : World) (hc : ms.length ≤ cap) (h : MRow w g o ms) (hr : ∀ m ∈ ms, Rds w m.dv m.data) (hf : Fine ms) :
    Calls Tryz.prog 208 #[.slice (some ⟨g, o, none⟩) ms.length cap] w fun r w' => (∃ v, r = .returned v ∧ IsE w' v (wrongR ms)) ∧ Below w.heap.size w w' := by
  obtain ⟨f1, f2, f3⟩ := hf
  have ql := length_any _ ms w (.inr ⟨g, o, cap, rfl, hc, h, hr⟩) f1 f2
  by_cases h1 : ms.length ≤ 5000
  · have k1 : ¬ (5000 : Int) < ms.length := by omega
    by_cases h2 : lenA ms ≤ 65536
    · have k2 : ¬ (65536 : Int) < lenA ms := by omega
      have HW := fun (m : Mv) (hm : m ∈ ms) (hb : okM m = false) => wrong_bad h1 h2 hm hb
      have HO := fun h3 => wrong_ok h1 h2 h3
      have HWH := hide' HW
      have HOH := hide' HO
      clear HW HO
      go_enter Tryz.func208, Tryz.ntmps208
      go_wp2_with fail
      refine ql.mono ?_
      rintro r w1 ⟨rfl, hb1⟩
      clear ql
      go_wp2
      go_loopw [3, 4, 21] (fun _ _ i wr => ∃ k : Nat, k ≤ ms.length ∧ i = .int .i64 k ∧ (ms.take k).all okM = true ∧ Below w.heap.size w wr) (fun _ _ i _ => ms.length - (intOf i).toNat)
      case atStart => exact ⟨0, by omega, rfl, rfl, hb1⟩
      case round =>
        obtain ⟨k, hk, rfl, hall, hB⟩ := hrel
        by_cases hkl : k < ms.length
        · have k3 : (k : Int) < ms.length := by omega
          obtain ⟨m, hm⟩ : ∃ m, ms[k]? = some m := ⟨_, List.getElem?_eq_getElem hkl⟩
          have hR := h.below hB
          have d0 := hR.c0 k m hm
          have d1 := hR.c1 k m hm
          have d2 := hR.c2 k m hm
          have hmem := List.mem_of_getElem? hm
          obtain ⟨da, dc, hdv⟩ := (hr m hmem).len
          rw [hdv] at d2
          have qn := fun w => name_any m.name (f3 m hmem) w
          have hb2 : ∀ o, Below w.heap.size w (wr.alloc o) := fun o => hB.alloc hB.size o
          have hbad := HWH.out m hmem
          have HBD := hide' hbad
          have htk : (ms.take (k + 1)).all okM = okM m := by rw [List.take_add_one, hm, List.all_append, hall]; simp
          have HTK := hide' htk
          have hsw := hB.size
          clear hR h hr f3 hm hmem hbad htk hall HWH HOH
          go_wp2_with fail
          refine (qn _).mono ?_
          rintro r w2 ⟨rfl, hb3⟩
          clear qn
          have z2 := (hb3.block wr.heap.size (by simp)).trans (alloc_new wr (.cells #[.string (mk m.name), .int .i64 m.date, .slice da m.data.length dc] 185))
          have e1 : w2.cell? ⟨wr.heap.size, 1, none⟩ = some (.int .i64 m.date) := by rw [Lib.cell_of_heap z2]; rfl
          have hB2 : Below w.heap.size w w2 := (hb2 _).trans (hb3.mono (hb2 _).size)
          clear hb3 hb2
          cases hn : nmb m.name with
          | false =>
            have ho : okM m = false := by unfold okM; rw [hn]; rfl
            have hw := HBD.out ho
            have HQ := hide' hw
            clear hw HBD HTK
            go_wp2
            go_ret
            rw [HQ.out]
            exact ⟨⟨_, rfl, isE_new _ _ 1 (by decide)⟩, hB2.alloc hB2.size _⟩
          | true =>
            by_cases t1 : m.date < 0
            · have ho : okM m = false := by unfold okM; rw [hn, decide_eq_false (by omega)]; rfl
              have hw := HBD.out ho
              have HQ := hide' hw
              clear hw HBD HTK
              go_wp2
              go_ret
              rw [HQ.out]
              exact ⟨⟨_, rfl, isE_new _ _ 1 (by decide)⟩, hB2.alloc hB2.size _⟩
            · by_cases t2 : 999999999999 < m.date
              · have ho : okM m = false := by unfold okM; rw [hn, decide_eq_true (by omega), decide_eq_false (by omega)]; rfl
                have hw := HBD.out ho
                have HQ := hide' hw
                clear hw HBD HTK
                go_wp2
                go_ret
                rw [HQ.out]
                exact ⟨⟨_, rfl, isE_new _ _ 1 (by decide)⟩, hB2.alloc hB2.size _⟩
              · have ho : okM m = true := by unfold okM; rw [hn, decide_eq_true (by omega), decide_eq_true (by omega)]; rfl
                have hw := HTK.out
                rw [ho] at hw
                have HQ := hide' hw
                clear hw HBD HTK
                go_wp2
                exact ⟨⟨k + 1, by omega, by simp, HQ.out, hB2⟩, by simp [intOf]; omega⟩
        · obtain rfl : k = ms.length := by omega
          have k3 : ¬ (ms.length : Int) < ms.length := by omega
          rw [List.take_length] at hall
          have hw := HOH.out hall
          have HQ := hide' hw
          clear hw HOH HWH
          go_wp2
          go_ret
          rw [HQ.out]
          exact ⟨⟨_, rfl, .inl ⟨rfl, rfl⟩⟩, hB⟩
    · have k2 : (65536 : Int) < lenA ms := by omega
      have hw := wrong_long (ms := ms) (.inr (by omega))
      have HQ := hide' hw
      clear hw
      go_enter Tryz.func208, Tryz.ntmps208
      go_wp2_with fail
      refine ql.mono ?_
      rintro r w1 ⟨rfl, hb1⟩
      clear ql
      go_wp2
      go_ret
      rw [HQ.out]
      exact ⟨⟨_, rfl, isE_new _ _ 2 (by decide)⟩, hb1.alloc hb1.size _⟩
  · have k1 : (5000 : Int) < ms.length := by omega
    have hw := wrong_long (ms := ms) (.inl (by omega))
    have HQ := hide' hw
    clear hw ql
    go_enter Tryz.func208, Tryz.ntmps208
    go_wp2
    go_ret
    rw [HQ.out]
    exact ⟨⟨_, rfl, isE_new _ _ 2 (by decide)⟩, (Below.refl _ _).alloc (Nat.le_refl _) _⟩
set_option maxRecDepth 100000 in
theorem check_nil (a : Option Addr) (c : Nat) (w : World) : Calls Tryz.prog 208 #[.slice a 0 c] w fun r w' => r = .returned .nilIface ∧ w' = w := by
  go_enter Tryz.func208, Tryz.ntmps208
  go_wp2_with (go_at_call 209; refine (length_nil a c _).mono ?_; rintro r w1 ⟨rfl, rfl⟩)
  go_loopw [3, 4, 21] (fun _ _ i wr => i = .int .i64 0 ∧ wr = w1) (fun _ _ _ _ => 0)
  case atStart => exact ⟨rfl, rfl⟩
  case round =>
    obtain ⟨rfl, rfl⟩ := hrel
    go_wp2
    go_ret
    exact ⟨rfl, rfl⟩
/-- check -/
theorem check_any (v : Value) (ms : List Mv) (w : World) (h : Mems w v ms) (hf : Fine ms) :
    Calls Tryz.prog 208 #[v] w fun r w' => (∃ v, r = .returned v ∧ IsE w' v (wrongR ms)) ∧ Below w.heap.size w w' := by
  rcases h with ⟨⟨a, c, rfl⟩, rfl⟩ | ⟨g, o, cap, rfl, h0, h1, h2⟩
  · exact (check_nil a c w).mono fun r w' ⟨hr, hw⟩ => ⟨⟨_, hr, .inl ⟨rfl, rfl⟩⟩, by rw [hw]; exact Below.refl _ _⟩
  · exact check_row g o cap ms w h0 h1 h2 hf
end Go.Proofs.YtbfchadcpokjoaaGreatDoor.Arc
namespace Go.Proofs.YtbfchadcpokjoaaGreatDoor.Arc
open Go.RowKit
set_option maxRecDepth 100000

theorem digits_len : ∀ (k n : Nat), n < 10 ^ (k + 1) → (Lib.decDigits n).length ≤ k + 1
  | 0, n, h => by rw [Lib.decDigits_one (by simpa using h)]; simp
  | k + 1, n, h => by
    by_cases h1 : n < 10
    · rw [Lib.decDigits_one h1]; simp
    · rw [Lib.decDigits, dif_neg h1, List.length_append]
      have := digits_len k (n / 10) (by rw [Nat.div_lt_iff_lt_mul (by decide)]; rw [Nat.pow_succ] at h; exact h)
      simp
      omega
theorem dec_len (k : Nat) (n : Int) (h0 : 0 ≤ n) (h : n < (10 : Int) ^ (k + 1)) : (dec n).length ≤ k + 1 := by
  unfold dec Lib.itoa
  rw [if_neg (by omega)]
  refine digits_len k n.toNat ?_
  have : ((n.toNat : Nat) : Int) < ((10 ^ (k + 1) : Nat) : Int) := by rw [Int.toNat_of_nonneg h0]; simpa using h
  exact Int.ofNat_lt.1 this
theorem pad_length {n : Nat} {b : Bs} (h : b.length ≤ n) : (pad n b).length = n := by unfold pad; simp; omega
theorem head_length {a b c d e f : Bs} (h1 : a.length ≤ 16) (h2 : b.length ≤ 12) (h3 : c.length ≤ 6) (h4 : d.length ≤ 6) (h5 : e.length ≤ 8) (h6 : f.length ≤ 10) : (headB a b c d e f).length = 60 := by
  unfold headB
  simp only [List.length_append, pad_length h1, pad_length h2, pad_length h3, pad_length h4, pad_length h5, pad_length h6]
  rfl
theorem data_length (d : Bs) : (dataB d).length = evn d.length := by
  unfold dataB evn
  rw [List.length_append]
  split
  · simp; omega
  · simp; omega
theorem dec_small (n : Nat) (h : n ≤ 65536) : (dec (n : Nat)).length ≤ 5 := dec_len 4 n (by omega) (by simp; omega)
theorem name_length {p : Nat} {b : Bs} (hp : p ≤ 65536) : (nameB p b).length ≤ 16 := by
  unfold nameB
  split
  · have := dec_small p hp
    simp
    omega
  · rename_i h
    unfold lng at h
    simp at h ⊢
    omega
theorem mem_length {p : Nat} {m : Mv} (hp : p ≤ 65536) (hm : okM m = true) (hd : m.data.length ≤ 65536) : (memB p m).length = wtD m := by
  unfold okM at hm
  simp only [Bool.and_eq_true, decide_eq_true_eq] at hm
  unfold memB wtD
  rw [List.length_append, data_length, head_length (name_length hp) (dec_len 11 m.date hm.1.2 (by have := hm.2; simp; omega)) (by simp) (by simp) (by simp) (Nat.le_trans (dec_small _ hd) (by decide))]
theorem body_length : ∀ (ms : List Mv) (p : Nat), (∀ m ∈ ms, okM m = true) → (∀ m ∈ ms, m.data.length ≤ 65536) → p + sumM wtT ms ≤ 65536 → (bodyB p ms).length = sumM wtD ms
  | [], _, _, _, _ => rfl
  | m :: r, p, h1, h2, h3 => by
    simp only [sumM] at h3
    have := body_length r (p + wtT m) (fun x hx => h1 x (List.mem_cons_of_mem _ hx)) (fun x hx => h2 x (List.mem_cons_of_mem _ hx)) (by omega)
    simp only [bodyB, List.length_append, sumM, this, mem_length (by omega : p ≤ 65536) (h1 m List.mem_cons_self) (h2 m List.mem_cons_self)]
theorem table_length (ms : List Mv) (h : sumM wtT ms ≤ 65536) : (tableB ms).length = if 0 < sumM wtT ms then 60 + evn (sumM wtT ms) else 0 := by
  unfold tableB
  rw [tbl_len]
  split
  · rw [List.length_append, data_length, tbl_len, head_length (by simp) (by simp) (by simp) (by simp) (by simp) (Nat.le_trans (dec_small _ h) (by decide))]
  · rfl
theorem wtD_le {ms : List Mv} (h : lenA ms ≤ 65536) : sumM wtD ms ≤ 65536 ∧ sumM wtT ms ≤ 65536 ∧ ∀ m ∈ ms, m.data.length ≤ 65536 := by
  unfold lenA at h
  have h1 : sumM wtT ms ≤ evn (sumM wtT ms) := by unfold evn; omega
  have h2 : sumM wtD ms ≤ 65536 := by omega
  refine ⟨h2, by split at h <;> omega, fun m hm => ?_⟩
  have h3 := sumM_mem wtD hm
  have e : wtD m = 60 + (m.data.length + m.data.length % 2) := rfl
  rw [e] at h3
  omega
/-- just as many bytes as length tells -/
theorem arch_length {ms : List Mv} (h1 : lenA ms ≤ 65536) (h2 : ms.all okM = true) : (archB ms).length = lenA ms := by
  obtain ⟨a, b, c⟩ := wtD_le h1
  unfold archB lenA
  rw [List.length_append, List.length_append, table_length ms b, body_length ms 0 (fun m hm => List.all_eq_true.1 h2 m hm) c (by omega)]
  show 8 + _ + _ = _
  omega
end Go.Proofs.YtbfchadcpokjoaaGreatDoor.Arc
namespace Go.Proofs.YtbfchadcpokjoaaGreatDoor.Arc
open Go
set_option maxRecDepth 100000

section
variable {P : Program} {md : Region.Mode} {ops : Array Oper} {Q : Exit → Act → World → Prop} {C : World → Prop}
def wpAnyC (P : Program) (md : Region.Mode) (ops : Array Oper) (C : World → Prop) (Q : Exit → Act → World → Prop) : Nat → Array Bool → Act → World → Prop
  | 0, listed, a, w => Region.ready md ops listed = [] ∧ Q .normal a w
  | fuel + 1, listed, a, w => (Region.ready md ops listed = [] → Q .normal a w) ∧ ∀ i ∈ Region.ready md ops listed, wpOp P ops Q i (fun a' w' => C w' ∧ wpAnyC P md ops C Q fuel (listed.setIfInBounds i true) a' w') a w
theorem wpAny_of_C : ∀ (fuel : Nat) (listed : Array Bool) (a : Act) (w : World), wpAnyC P md ops C Q fuel listed a w → wpAny P md ops Q fuel listed a w
  | 0, _, _, _, h => h
  | fuel + 1, _, _, _, h => ⟨h.1, fun i hi => wpOp_mono (fun a' w' h' => wpAny_of_C fuel _ a' w' h'.2) (h.2 i hi)⟩
def YieldsC (P : Program) (ops : Array Oper) (C : World → Prop) (o : Oper) (v : Value) (a : Act) : Prop :=
  (Region.wanted o (yielded ops a.tmps) = true ∧ ∀ w, C w → (execOp a.eval o).run P w = .ok (.value v) w) ∨ (Region.wanted o (yielded ops a.tmps) = false ∧ v = undef)
theorem YieldsC.wpOp {i : Nat} {o : Oper} {v : Value} {a : Act} (hi : ops[i]? = some o) (hy : YieldsC P ops C o v a) {K : Act → World → Prop} {w : World} (hw : C w) (h : K (a.put o.dst v) w) : wpOp P ops Q i K a w := by
  unfold Go.wpOp
  simp only [hi]
  rcases hy with ⟨hw1, hv⟩ | ⟨hw1, rfl⟩
  · simp only [hw1, if_true, Oper.wp, hv w hw, Oper.upon]; exact .inl h
  · simp only [hw1, Bool.false_eq_true, if_false]; exact h
theorem YieldsC.of_same {o : Oper} {v : Value} {a a' : Act} (hy : YieldsC P ops C o v a) (he : execOp a'.eval o = execOp a.eval o) (hw : Region.wanted o (yielded ops a'.tmps) = Region.wanted o (yielded ops a.tmps)) : YieldsC P ops C o v a' := by
  unfold YieldsC at *
  rw [he, hw]
  exact hy
theorem wpOp_putC {j : Nat} {oi oj : Oper} {v : Value} (hj : ops[j]? = some oj) (hap : oi.apart ops oj = true) (hsi : ∀ cs b, oi.op ≠ .select cs b) (hsj : ∀ cs b, oj.op ≠ .select cs b)
    (hQ : ∀ c a w, Q (.panic c) (a.put oi.dst v) w → Q (.panic c) a w) {K : Act → World → Prop} {a : Act} {w : World} (hy : YieldsC P ops C oi v a) (h : wpOp P ops Q j K (a.put oi.dst v) w) :
    wpOp P ops Q j (fun a' w' => YieldsC P ops C oi v a' ∧ K (a'.put oi.dst v) w') a w := by
  obtain ⟨h1, h2, h3⟩ := Oper.apart_spec hap
  have keep : ∀ (a : Act), YieldsC P ops C oi v a → ∀ u, YieldsC P ops C oi v (a.put oj.dst u) := fun a hy u => hy.of_same (execOp_put oi hsi a oj.dst u h3) (wanted_put oi a oj.dst u h3)
  have keepD : ∀ d, YieldsC P ops C oi v { a with defers := d :: a.defers } := fun d => hy.of_same rfl rfl
  unfold wpOp at *
  simp only [hj] at *
  rw [wanted_put oj a oi.dst v h1] at h
  split
  · rename_i hw
    simp only [hw, if_true] at h
    rcases h with h | ⟨hasks, hlets⟩
    case inr => exact .inr ⟨by unfold Oper.asks at *; rw [execOp_put oj hsj a oi.dst v h1] at hasks; exact hasks, hlets⟩
    refine .inl ?_
    unfold Oper.wp at *
    rw [execOp_put oj hsj a oi.dst v h1] at h
    generalize (execOp a.eval oj).run P w = r at *
    cases r with
    | ok n w' =>
      cases n <;> simp only [Oper.upon] at h ⊢
      case value u => exact ⟨keep a hy u, by rw [← Act.put_comm a v u h2]; exact h⟩
      case skip => exact ⟨keep a hy _, by rw [← Act.put_comm a v undef h2]; exact h⟩
      case defer d =>
        refine ⟨keep _ (keepD d) _, ?_⟩
        rw [← Act.put_comm _ v undef h2, ← Act.put_defers]
        exact h
      case enter f args =>
        refine Calls.mono h fun e w'' he => ?_
        cases e with
        | returned u => exact ⟨keep a hy u, by rw [← Act.put_comm a v u h2]; exact he⟩
        | panicked c => exact hQ _ _ _ he
        | outgrown => exact he
      case row row args => exact Rows.mono h fun u w'' he => ⟨keep a hy u, by rw [← Act.put_comm a v u h2]; exact he⟩
    | halt x w' =>
      cases x <;> simp only [Oper.upon] at h ⊢
      case panic u => exact hQ _ _ _ h
  · rename_i hw
    simp only [hw] at h
    exact ⟨keep a hy _, by rw [← Act.put_comm a v undef h2]; exact h⟩
theorem wpAnyC_first {i : Nat} {oi : Oper} {v : Value} (hi : ops[i]? = some oi) (hsel : ∀ (j : Nat) (o : Oper) cs b, ops[j]? = some o → o.op ≠ .select cs b) (hQ : ∀ c a w, Q (.panic c) (a.put oi.dst v) w → Q (.panic c) a w) :
    ∀ (fuel : Nat) (listed : Array Bool) (a : Act) (w : World), C w →
      (∀ j oj, ops[j]? = some oj → j ≠ i → listed.getD j true = false → (∀ e ∈ oj.after, Region.binds md e = true → e.on ≠ i) → oi.apart ops oj = true) →
      i ∈ Region.ready md ops listed → YieldsC P ops C oi v a →
      wpAnyC P md ops C Q fuel (listed.setIfInBounds i true) (a.put oi.dst v) w → wpAnyC P md ops C Q (fuel + 1) listed a w := by
  intro fuel
  induction fuel with
  | zero =>
    intro listed a w hc _ hr hy H
    refine ⟨fun h => (by rw [h] at hr; cases hr), fun j hj => ?_⟩
    by_cases hji : j = i
    · subst hji; exact hy.wpOp hi hc ⟨hc, H⟩
    · have := ready_mono hj hji
      rw [H.1] at this
      cases this
  | succ fuel ih =>
    intro listed a w hc hfree hr hy H
    refine ⟨fun h => (by rw [h] at hr; cases hr), fun j hj => ?_⟩
    by_cases hji : j = i
    · subst hji; exact hy.wpOp hi hc ⟨hc, H⟩
    · have h1 := H.2 j (ready_mono hj hji)
      obtain ⟨hjun, oj, hoj, hall⟩ := mem_ready.1 hj
      have hnot : ∀ e ∈ oj.after, Region.binds md e = true → e.on ≠ i := fun e he hb heq => by
        have h1 := hall e he hb
        have h0 := (mem_ready.1 hr).1
        rw [heq] at h1
        rcases Nat.lt_or_ge i listed.size with h' | h'
        · simp [h'] at h0 h1; rw [h0] at h1; cases h1
        · simp [Array.getElem?_eq_none h'] at h1
      have h2 := wpOp_putC hoj (hfree j oj hoj hji hjun hnot) (fun cs b => hsel i oi cs b hi) (fun cs b => hsel j oj cs b hoj) hQ hy h1
      have hfree' : ∀ k ok, ops[k]? = some ok → k ≠ i → (listed.setIfInBounds j true).getD k true = false → (∀ e ∈ ok.after, Region.binds md e = true → e.on ≠ i) → oi.apart ops ok = true := fun k ok hk hki hun hno => by
        refine hfree k ok hk hki ?_ hno
        by_cases hjk : j = k
        · subst hjk; exact hjun
        · rw [getD_set_ne true hjk] at hun; exact hun
      refine wpOp_mono (fun a' w' h3 => ⟨h3.2.1, ih (listed.setIfInBounds j true) a' w' h3.2.1 hfree' (ready_mono hr (Ne.symm hji)) h3.1 ?_⟩) h2
      rw [Array.setIfInBounds_comm _ _ hji]
      exact h3.2.2
/-- an operation that yields one value in the class is taken at once -/
theorem wpAnyC_take {i : Nat} {oi : Oper} {v : Value} {fuel : Nat} {listed : Array Bool} {a : Act} {w : World} (hc : C w) (hi : ops[i]? = some oi) (hs : Region.noSelect ops = true) (hf : Region.free md ops listed i = true) (hr : (Region.ready md ops listed).contains i = true)
    (hQ : ∀ c a w, Q (.panic c) (a.put oi.dst v) w → Q (.panic c) a w) (hy : YieldsC P ops C oi v a) (h : wpAnyC P md ops C Q fuel (listed.setIfInBounds i true) (a.put oi.dst v) w) : wpAnyC P md ops C Q (fuel + 1) listed a w :=
  wpAnyC_first hi (Region.noSelect_spec hs) hQ fuel listed a w hc (Region.free_spec hi hf) (by simpa using hr) hy h
/-- one operation alone is ready -/
theorem wpAnyC_one {i : Nat} {fuel : Nat} {listed : Array Bool} {a : Act} {w : World} (hr : Region.ready md ops listed = [i]) (h : wpOp P ops Q i (fun a' w' => C w' ∧ wpAnyC P md ops C Q fuel (listed.setIfInBounds i true) a' w') a w) : wpAnyC P md ops C Q (fuel + 1) listed a w :=
  ⟨fun h0 => absurd (hr ▸ h0) (by simp), fun j hj => by rw [hr, List.mem_singleton] at hj; subst hj; exact h⟩
theorem wpAnyC_done {listed : Array Bool} {a : Act} {w : World} (hr : Region.ready md ops listed = []) (h : Q .normal a w) : ∀ fuel, wpAnyC P md ops C Q fuel listed a w
  | 0 => ⟨hr, h⟩
  | _ + 1 => ⟨fun _ => h, by rw [hr]; simp⟩
theorem wp_region_class {id : Nat} {a : Act} {w : World} (hm : P.follows .mixedOrders = true) (h : wpAnyC P .any ops C Q ops.size (Array.replicate ops.size false) a w.drew) : (Code.region id ops true).wp P Q a w :=
  wp_region_any hm (wpAny_of_C _ _ _ _ h)
/-- an operation that is carried out: at the operation -/
theorem wpOp_wanted {i : Nat} {o : Oper} {K : Act → World → Prop} {a : Act} {w : World} (hi : ops[i]? = some o) (hw : Region.wanted o (yielded ops a.tmps) = true) (h : o.wp P a w K Q) : wpOp P ops Q i K a w := by
  unfold Go.wpOp
  simp only [hi, hw, if_true]
  exact .inl h
end
end Go.Proofs.YtbfchadcpokjoaaGreatDoor.Arc
