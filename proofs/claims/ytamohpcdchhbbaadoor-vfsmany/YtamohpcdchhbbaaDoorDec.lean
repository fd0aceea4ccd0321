/- The contract of anvilref1.Decimal; names with a number; what becomes of a tree of such names. -/
import Derived.Test.YtamohpcdchhbbaaDoorMore
import Derived.Test.YtamohpcdchhbbaaDoorGood
import Derived.Lib.ItoaNum
namespace Go.Proofs.YtamohpcdchhbbaaDoor
open Go.RowKit Go.Maps

theorem dec_small (u : Nat) (h : u < 10) : Lib.decDigits u = [UInt8.ofNat (48 + u)] := Lib.decDigits_one h
theorem dec_step (u : Nat) (h : ¬ u < 10) : Lib.decDigits u = Lib.decDigits (u / 10) ++ [UInt8.ofNat (48 + u % 10)] := by
  conv => lhs; rw [Lib.decDigits, dif_neg h]
theorem digit_nat (k : Nat) (h : k < 10) : (UInt8.ofNat (48 + k)).toNat = 48 + k := by
  rw [UInt8.toNat_ofNat']
  exact Nat.mod_eq_of_lt (by omega)
def nv : Int → List UInt8 → Int
  | n, [] => n
  | n, c :: r => nv (n * 10 + ((c.toNat : Int) - 48)) r
theorem nv_snoc (n : Int) (l : List UInt8) (c : UInt8) : nv n (l ++ [c]) = nv n l * 10 + ((c.toNat : Int) - 48) := by
  induction l generalizing n with
  | nil => rfl
  | cons x r ih => exact ih _
theorem dec_dig (u : Nat) : ∀ c ∈ Lib.decDigits u, 48 ≤ c.toNat ∧ c.toNat ≤ 57 := by
  induction u using Nat.strongRecOn with
  | ind u ih =>
    by_cases h : u < 10
    · rw [dec_small u h]
      intro c hc
      rw [List.mem_singleton.1 hc, digit_nat u h]
      omega
    · rw [dec_step u h]
      intro c hc
      rcases List.mem_append.1 hc with hc | hc
      · exact ih (u / 10) (by omega) c hc
      · rw [List.mem_singleton.1 hc, digit_nat _ (Nat.mod_lt _ (by decide))]
        have := Nat.mod_lt u (show 0 < 10 by decide)
        omega
theorem dec_nv (u : Nat) : nv 0 (Lib.decDigits u) = u := by
  induction u using Nat.strongRecOn with
  | ind u ih =>
    by_cases h : u < 10
    · rw [dec_small u h]
      simp only [nv]
      rw [digit_nat u h]
      omega
    · rw [dec_step u h, nv_snoc, ih (u / 10) (by omega), digit_nat _ (Nat.mod_lt _ (by decide))]
      omega
theorem dec_inj {u v : Nat} (h : Lib.decDigits u = Lib.decDigits v) : u = v := by
  have h1 := dec_nv u
  rw [h, dec_nv] at h1
  omega
theorem dec_len (k : Nat) : ∀ u, u < 10 ^ (k + 1) → (Lib.decDigits u).length ≤ k + 1 := by
  induction k with
  | zero =>
    intro u hu
    have e : 10 ^ (0 + 1) = 10 := rfl
    rw [dec_small u (by omega)]; simp
  | succ k ih =>
    intro u hu
    by_cases h : u < 10
    · rw [dec_small u h]; simp
    · rw [dec_step u h, List.length_append, List.length_singleton]
      have := ih (u / 10) (by rw [Nat.pow_succ 10 (k + 1)] at hu; omega)
      omega
theorem piece : ∀ k : Fin 10, (⟨#[48, 49, 50, 51, 52, 53, 54, 55, 56, 57]⟩ : ByteArray).extract k.val (k.val + 1) = ⟨#[UInt8.ofNat (48 + k.val)]⟩ := by decide +kernel
theorem piece_at (k : Nat) (h : k < 10) : (⟨#[48, 49, 50, 51, 52, 53, 54, 55, 56, 57]⟩ : ByteArray).extract k (k + 1) = ⟨#[UInt8.ofNat (48 + k)]⟩ := piece ⟨k, h⟩
theorem dec_size (u : Nat) (h : u ≤ 9223372036854775808) : (⟨(Lib.decDigits u).toArray⟩ : ByteArray).size ≤ 20 := by
  show (Lib.decDigits u).toArray.size ≤ 20
  rw [List.size_toArray]
  exact dec_len 19 u (by have e : 10 ^ (19 + 1) = 100000000000000000000 := by decide
                         omega)
set_option maxHeartbeats 400000 in
theorem rdecimal_nat (k : Nat) : ∀ u : Nat, u ≤ k → u ≤ 9223372036854775807 → ∀ w : World,
    Calls Tryd.prog 7 #[.int .i64 u] w fun e w' => e = .returned (.string ⟨(Lib.decDigits u).toArray⟩) ∧ w' = w := by
  induction k using Nat.strongRecOn with
  | ind k ih =>
    intro u hu hb w
    by_cases h : u < 10
    · have j1 : ¬ (u : Int) < 0 := by omega
      have j2 : ¬ (9 : Int) < u := by omega
      go_enter Tryd.func7, Tryd.ntmps7
      go_wp2
      go_ret
      exact ⟨ret_str (by rw [dec_small u h, Nat.mod_eq_of_lt h, piece_at u h]), rfl⟩
    · have j1 : ¬ (u : Int) < 0 := by omega
      have j2 : (9 : Int) < u := by omega
      have hd := dec_step u h
      have hz := dec_size (u / 10) (by omega)
      have kr : ∀ w, Calls Tryd.prog 7 #[.int .i64 ((u : Int) / 10)] w fun e w' => e = .returned (.string ⟨(Lib.decDigits (u / 10)).toArray⟩) ∧ w' = w := fun w => by
        have := ih (u / 10) (by omega) (u / 10) (Nat.le_refl _) (by omega) w
        rwa [show ((u / 10 : Nat) : Int) = (u : Int) / 10 by omega] at this
      have hfin : (⟨(Lib.decDigits (u / 10)).toArray⟩ : ByteArray) ++ (⟨#[UInt8.ofNat (48 + u % 10)]⟩ : ByteArray) = ⟨(Lib.decDigits u).toArray⟩ := by
        rw [hd, ByteArray.mk_append_mk]
      have HF := hide' hfin
      have HP := hide' (piece_at (u % 10) (Nat.mod_lt _ (by decide)))
      generalize Lib.decDigits u = du at HF ⊢
      generalize (⟨(Lib.decDigits (u / 10)).toArray⟩ : ByteArray) = d at hz kr HF
      clear ih hd hfin
      go_enter Tryd.func7, Tryd.ntmps7
      go_wp2_with (go_at_call 7; refine (kr _).mono ?_; rintro e w' ⟨rfl, rfl⟩)
      go_ret
      exact ⟨ret_str (by rw [← HF.out, ← HP.out]), rfl⟩

/- names with a number -/
def nm (c : UInt8) (i : Nat) : Bs := c :: Lib.decDigits i
theorem nm_inj {c : UInt8} {i j : Nat} (h : nm c i = nm c j) : i = j := by
  unfold nm at h
  exact dec_inj (List.cons.inj h).2
structure Letter (c : UInt8) : Prop where
  a : c ≠ 47
  b : c ≠ 46
  c0 : c ≠ 0
  c10 : c ≠ 10
theorem nm_no {c x : UInt8} (hc : c ≠ x) (hx : x.toNat < 48) (i : Nat) : x ∉ nm c i := by
  intro h
  rcases List.mem_cons.1 h with h | h
  · exact hc h.symm
  · have := dec_dig i x h; omega
theorem nm_len (c : UInt8) (i : Nat) (h : i < 100000) : (nm c i).length ≤ 6 := by
  have := dec_len 4 i (by have e : 10 ^ (4 + 1) = 100000 := by decide
                          omega)
  unfold nm
  rw [List.length_cons]
  omega
theorem nm_good {c : UInt8} (h : Letter c) (i : Nat) : good (nm c i) := by
  refine ⟨by unfold nm; simp, nm_no h.a (by decide) i, fun e => ?_, fun e => ?_⟩
  · unfold nm at e; exact h.b (List.cons.inj e).1
  · unfold nm at e; exact h.b (List.cons.inj e).1
theorem nm_cut {c : UInt8} (h : Letter c) (i : Nat) : cut (nm c i) = [nm c i] := cut_one _ (nm_no h.a (by decide) i)
theorem nm_clean {c : UInt8} (h : Letter c) (i : Nat) : clean (nm c i) = nm c i := by
  unfold clean kpt
  rw [nm_cut h, keep_goods [nm c i] [] (fun x hx => by rw [List.mem_singleton.1 hx]; exact nm_good h i)]
  simp [sl]
theorem nm_valid {c : UInt8} (h : Letter c) (i : Nat) (hi : i < 100000) : valid (nm c i) = true := by
  have hl := nm_len c i hi
  have h0 : (nm c i).contains 0 = false := by
    cases hh : (nm c i).contains 0 with
    | false => rfl
    | true => exact absurd (List.contains_iff_mem.1 hh) (nm_no h.c0 (by decide) i)
  have h10 : (nm c i).contains 10 = false := by
    cases hh : (nm c i).contains 10 with
    | false => rfl
    | true => exact absurd (List.contains_iff_mem.1 hh) (nm_no h.c10 (by decide) i)
  unfold valid
  rw [nm_clean h, nm_cut h]
  have e1 : decide ((nm c i).length ≤ 1000) = true := decide_eq_true (by omega)
  have e2 : decide ((nm c i).length ≤ 255) = true := decide_eq_true (by omega)
  simp only [e1, List.all_cons, List.all_nil, okn, e2, h0, h10]
  simp
theorem nm_look {c : UInt8} (h : Letter c) (i : Nat) (hi : i < 100000) (T : Tr) : lookN T (nm c i) = lkOf (fnd T (nm c i)) := by
  unfold lookN
  rw [nm_valid h i hi, if_pos rfl]
  unfold lookP
  rw [ends_word _ (nm_no h.a (by decide) i) (nm_good h i).1]
  show stp (fun n : Nd => n.dir) T (nm c i) .rt (nm c i).length = _
  simp only [stp, List.take_length]
/-- a tree of so many names -/
structure ManyAt (c : UInt8) (i : Nat) (T : Tr) : Prop where
  nms : ∀ e ∈ T, ∃ j, j < i ∧ e.1 = nm c j
  dat : ∀ e ∈ T, e.2.data = []
  len : T.length = min i 1000
theorem weight_len {T : Tr} (h : ∀ e ∈ T, e.2.data = []) : weight T = T.length := by
  unfold weight
  induction T with
  | nil => rfl
  | cons x r ih =>
    simp only [sumOf, List.length_cons, Nd.wt, h x List.mem_cons_self, List.length_nil]
    rw [ih fun e he => h e (List.mem_cons_of_mem _ he)]
    omega
theorem many_put {c : UInt8} {i : Nat} {T : Tr} (h : ManyAt c i T) (clk : Int) (n : Nd) (hn : n.data = []) (hi : i < 100000) :
    (i < 1000 → ∃ T', putR T clk 100000 (nm c i) n = (0, T', clk + 1) ∧ ManyAt c (i + 1) T') ∧ (¬ i < 1000 → putR T clk 100000 (nm c i) n = (15, T, clk) ∧ ManyAt c (i + 1) T) := by
  have hno : fnd T (nm c i) = none := fnd_none_of fun e he e2 => by
    obtain ⟨j, hj, ej⟩ := h.nms e he
    have := nm_inj (ej.symm.trans e2)
    omega
  have hl : (put T (nm c i) n).length = T.length + 1 := by rw [put_length, del_none hno]
  have hd : ∀ m : Nd, m.data = [] → ∀ e ∈ put T (nm c i) m, e.2.data = [] := fun m hm e he => by
    rcases mem_put.1 he with rfl | ⟨h1, _⟩
    · exact hm
    · exact h.dat e h1
  have hwt := weight_len (hd n hn)
  have hlen := h.len
  refine ⟨fun h1 => ⟨put T (nm c i) { n with time := clk + 1 }, ?_, ⟨fun e he => ?_, hd { n with time := clk + 1 } hn, ?_⟩⟩, fun h1 => ⟨?_, ⟨fun e he => ?_, h.dat, by omega⟩⟩⟩
  · unfold putR
    rw [if_pos ⟨by omega, by rw [hwt, hl]; omega⟩]
  · rcases mem_put.1 he with rfl | ⟨h2, _⟩
    · exact ⟨i, by omega, rfl⟩
    · obtain ⟨j, hj, ej⟩ := h.nms e h2
      exact ⟨j, by omega, ej⟩
  · rw [put_length, del_none hno]; omega
  · unfold putR
    rw [if_neg (by omega)]
  · obtain ⟨j, hj, ej⟩ := h.nms e he
    exact ⟨j, by omega, ej⟩
theorem many_non {c : UInt8} {i : Nat} {T : Tr} (hc : Letter c) (h : ManyAt c i T) (hi : i < 100000) : lookN T (nm c i) = .non := by
  rw [nm_look hc i hi, fnd_none_of fun e he e2 => by
    obtain ⟨j, hj, ej⟩ := h.nms e he
    have := nm_inj (ej.symm.trans e2)
    omega]
  rfl
theorem many_mkdir {c : UInt8} {i : Nat} {T : Tr} (hc : Letter c) (h : ManyAt c i T) (hi : i < 100000) (clk : Int) : mkdirR T clk 100000 (nm c i) = putR T clk 100000 (nm c i) ⟨true, 0, []⟩ := by
  unfold mkdirR
  rw [many_non hc h hi]
theorem many_write {c : UInt8} {i : Nat} {T : Tr} (hc : Letter c) (h : ManyAt c i T) (hi : i < 100000) (clk : Int) : writeR T clk 100000 (nm c i) [] false = putR T clk 100000 (nm c i) ⟨false, 0, []⟩ := by
  unfold writeR
  rw [many_non hc h hi]
  rfl
end Go.Proofs.YtamohpcdchhbbaaDoor
