/- The contract of the law PatFilters: it answers true whatever the lists are. -/
import Derived.Test.YtbegdhbpcgflkaaFilter
import Derived.Test.YtbegdhbpcgflkaaLaws
namespace Go.Proofs.Ytbegdhbpcgflkaa
open Go.RowKit Go.Shelf

theorem tot_len (L : List ByteArray) : L.length ≤ tot L := by
  induction L with
  | nil => exact Nat.le_refl _
  | cons x r ih => simp only [List.length_cons, tot]; omega
theorem tot_mem (L : List ByteArray) (x : ByteArray) (h : x ∈ L) : x.size ≤ tot L := by
  induction L with
  | nil => cases h
  | cons y r ih =>
    simp only [tot]
    rcases List.mem_cons.1 h with rfl | h
    · omega
    · have := ih h; omega
theorem tot_at (L : List ByteArray) (j : Nat) : (L.getD j ⟨#[]⟩).size ≤ tot L := by
  rw [List.getD_eq_getElem?_getD]
  cases h : L[j]? with
  | none => exact Nat.zero_le _
  | some x => exact tot_mem L x (List.mem_of_getElem? h)
theorem small (L : List ByteArray) (h : ¬ 20000 < bg 0 L) : L.length ≤ 20000 ∧ ∀ j, (L.getD j ⟨#[]⟩).size ≤ 20000 := by
  have h1 := bg_tot L 0 (by omega)
  have h2 := tot_len L
  exact ⟨by omega, fun j => by have := tot_at L j; omega⟩
theorem vals_eq (ys : List Wd) (F : List ByteArray) (h : ys.map (fun x => x.1) = F) : ys.length = F.length ∧ ys.map encW = F.map Value.string := by
  subst h
  refine ⟨by simp, ?_⟩
  rw [List.map_map]
  rfl
theorem Strs.form {W : World} {v : Value} {L : List ByteArray} (h : Strs W v L) : ∃ a c, v = .slice a L.length c := by
  rcases h with ⟨rfl, rfl⟩ | ⟨b, off, cap, rfl, _⟩
  · exact ⟨none, 0, rfl⟩
  · exact ⟨_, cap, rfl⟩

theorem filter_strs (PS L : List ByteArray) (o : Bool) (vp vl : Value) (w : World) (hp : PS.length ≤ 20000) (hl : L.length ≤ 20000) (hps : ∀ j, (PS.getD j ⟨#[]⟩).size ≤ 20000) (hls : ∀ j, (L.getD j ⟨#[]⟩).size ≤ 20000) (hP : Strz w vp PS) (hL : Strz w vl L) :
    Calls Try.prog 17 #[vp, vl, .bool o] w fun e w' => ∃ a c, e = .returned (.slice a (flt PS o L).length c) ∧ Strs w' (.slice a (flt PS o L).length c) (flt PS o L) ∧ Below w.heap.size w w' := by
  obtain ⟨ap, cp, rfl, hP'⟩ := hP.txt
  obtain ⟨al, cl, rfl, hL'⟩ := hL.txt
  refine (filter_any PS L o ap al cp cl w (by omega) (by omega) (fun j => by have := hps j; omega) (fun j => by have := hls j; omega) hP' hL').mono ?_
  rintro e w' ⟨v, ys, rfl, hys, hrow, hb⟩
  obtain ⟨e1, e2⟩ := vals_eq ys _ hys
  rw [e1, e2] at hrow
  have hS := Strs.of_row hrow
  obtain ⟨a, c, rfl⟩ := hS.form
  exact ⟨a, c, rfl, hS, hb⟩
theorem rfilter_strs (PS L : List ByteArray) (o : Bool) (vp vl : Value) (w : World) (hp : PS.length ≤ 20000) (hl : L.length ≤ 20000) (hps : ∀ j, (PS.getD j ⟨#[]⟩).size ≤ 20000) (hls : ∀ j, (L.getD j ⟨#[]⟩).size ≤ 20000) (hP : Strz w vp PS) (hL : Strz w vl L) :
    Calls Try.prog 20 #[vp, vl, .bool o] w fun e w' => ∃ v, e = .returned v ∧ Strs w' v (flt PS o L) ∧ Below w.heap.size w w' := by
  obtain ⟨ap, cp, rfl, hP'⟩ := hP.txt
  obtain ⟨al, cl, rfl, hL'⟩ := hL.txt
  refine (rfilter_any PS L o ap al cp cl w (by omega) (by omega) (fun j => by have := hps j; omega) (fun j => by have := hls j; omega) hP' hL').mono ?_
  rintro e w' ⟨v, rfl, hrow, hb⟩
  exact ⟨v, rfl, Strs.of_row hrow, hb⟩

set_option maxHeartbeats 1000000 in
theorem filters_main (PS L : List ByteArray) (ap al : Option Addr) (cp cl : Nat) (w : World) (hp : ¬ 20000 < bg 0 PS) (hl : ¬ 20000 < bg 0 L) (h40 : PS.length ≤ 40) (hP : Strz w (.slice ap PS.length cp) PS) (hL : Strz w (.slice al L.length cl) L) :
    Calls Try.prog 4 #[.slice ap PS.length cp, .slice al L.length cl] w fun e w' => e = .returned (.bool true) ∧ Below w.heap.size w w' := by
  obtain ⟨p1, p2⟩ := small PS hp
  obtain ⟨l1, l2⟩ := small L hl
  have k1 : ∀ w', Strz w' (.slice ap PS.length cp) PS → Calls Try.prog 15 #[.slice ap PS.length cp] w' fun e w'' => e = .returned (.bool false) ∧ w'' = w' := fun w' h => by
    have := big_any PS _ w' (by omega) (fun j => by have := p2 j; omega) h
    rwa [show decide (20000 < bg 0 PS) = false by simpa using hp] at this
  have k2 : ∀ w', Strz w' (.slice al L.length cl) L → Calls Try.prog 15 #[.slice al L.length cl] w' fun e w'' => e = .returned (.bool false) ∧ w'' = w' := fun w' h => by
    have := big_any L _ w' (by omega) (fun j => by have := l2 j; omega) h
    rwa [show decide (20000 < bg 0 L) = false by simpa using hl] at this
  have k3 := fun w' h => lent_any PS (.slice ap PS.length cp) w' (by omega) h
  have k4 := fun w' h => lent_any L (.slice al L.length cl) w' (by omega) h
  have k5 := fun vp vl w' h h' => filter_strs PS L false vp vl w' p1 l1 p2 l2 h h'
  have k5t := fun vp vl w' h h' => filter_strs PS L true vp vl w' p1 l1 p2 l2 h h'
  have k6 := fun w' h h' => rfilter_strs PS L false (.slice ap PS.length cp) (.slice al L.length cl) w' p1 l1 p2 l2 h h'
  have k6t := fun w' h h' => rfilter_strs PS L true (.slice ap PS.length cp) (.slice al L.length cl) w' p1 l1 p2 l2 h h'
  have k7 := fun B v w' h h' => stays_any PS B v (.slice ap PS.length cp) w' (by omega) h h'
  have k8 := fun B v w' h h' => stays_any L B v (.slice al L.length cl) w' (by omega) h h'
  have k9 := fun v v' w' h h' => same_any (flt PS false L) v v' w' h h'
  have k9t := fun v v' w' h h' => same_any (flt PS true L) v v' w' h h'
  have hf := flt_two PS L
  have hf1 : (flt PS false L).length ≤ 20000 := by omega
  have hf2 : (flt PS true L).length ≤ 20000 := by omega
  generalize flt PS false L = F1 at k5 k6 k9 hf hf1
  generalize flt PS true L = F2 at k5t k6t k9t hf hf2
  clear p2 l2 hp hl
  go_enter Try.func4, Try.ntmps4
  go_wp2_with fail
  refine (alive_any _).mono ?_
  rintro e w0 ⟨rfl, B0⟩
  have P0 := hP.below B0
  have L0 := hL.below B0
  clear hP hL
  go_wp2_with fail
  refine (k1 _ P0).mono ?_
  rintro e w0' ⟨rfl, rfl⟩
  go_wp2_with fail
  refine (k2 _ L0).mono ?_
  rintro e w0' ⟨rfl, rfl⟩
  go_wp2_with fail
  refine (k3 _ P0).mono ?_
  rintro e w1 ⟨va, rfl, A1, b1⟩
  have P1 := P0.below b1
  have L1 := L0.below b1
  have B1 := B0.trans (b1.mono B0.size)
  clear P0 L0 B0 b1
  go_wp2_with fail
  refine (k4 _ L1).mono ?_
  rintro e w2 ⟨vb, rfl, C2, b2⟩
  have P2 := P1.below b2
  have L2 := L1.below b2
  have A2 := A1.below b2
  have B2 := B1.trans (b2.mono B1.size)
  clear P1 L1 B1 b2 A1
  go_wp2_with fail
  refine (k5 va vb _ (.inr A2.strs) (.inr C2.strs)).mono ?_
  rintro e w3 ⟨ia, ic, rfl, I3, b3⟩
  have P3 := P2.below b3
  have L3 := L2.below b3
  have A3 := A2.below b3
  have C3 := C2.below b3
  have B3 := B2.trans (b3.mono B2.size)
  clear P2 L2 A2 C2 B2 b3
  go_wp2_with fail
  refine (k5t va vb _ (.inr A3.strs) (.inr C3.strs)).mono ?_
  rintro e w4 ⟨oa, oc, rfl, O4, b4⟩
  have P4 := P3.below b4
  have L4 := L3.below b4
  have A4 := A3.below b4
  have C4 := C3.below b4
  have I4 := I3.below b4
  have B4 := B3.trans (b4.mono B3.size)
  clear P3 L3 A3 C3 B3 b4 I3
  go_wp2_with fail
  refine (k7 _ va _ A4 P4).mono ?_
  rintro e w5 ⟨rfl, b5⟩
  have P5 := P4.below b5
  have L5 := L4.below b5
  have C5 := C4.below b5
  have I5 := I4.below b5
  have O5 := O4.below b5
  have B5 := B4.trans (b5.mono B4.size)
  clear P4 L4 A4 C4 B4 b5 I4 O4
  go_wp2_with fail
  refine (k8 _ vb _ C5 L5).mono ?_
  rintro e w6 ⟨rfl, b6⟩
  have P6 := P5.below b6
  have L6 := L5.below b6
  have I6 := I5.below b6
  have O6 := O5.below b6
  have B6 := B5.trans (b6.mono B5.size)
  clear P5 L5 C5 B5 b6 I5 O5
  go_wp2_with fail
  refine (k6 _ P6 L6).mono ?_
  rintro e w7 ⟨vf, rfl, F7, b7⟩
  have P7 := P6.below b7
  have L7 := L6.below b7
  have I7 := I6.below b7
  have O7 := O6.below b7
  have B7 := B6.trans (b7.mono B6.size)
  clear P6 L6 B6 b7 I6 O6
  go_wp2_with fail
  refine (k9 _ vf _ I7 F7).mono ?_
  rintro e w8 ⟨rfl, b8⟩
  have P8 := P7.below b8
  have L8 := L7.below b8
  have O8 := O7.below b8
  have B8 := B7.trans (b8.mono B7.size)
  clear P7 L7 B7 b8 I7 O7 F7
  go_wp2_with fail
  refine (k6t _ P8 L8).mono ?_
  rintro e w9 ⟨vg, rfl, G9, b9⟩
  have O9 := O8.below b9
  have B9 := B8.trans (b9.mono B8.size)
  clear P8 L8 B8 b9 O8
  go_wp2_with fail
  refine (k9t _ vg _ O9 G9).mono ?_
  rintro e w10 ⟨rfl, b10⟩
  have B10 := B9.trans (b10.mono B9.size)
  clear B9 b10 O9 G9
  have hfi : ((F1.length : Int) + F2.length == L.length) = true := by rw [beq_iff_eq]; omega
  go_wp2
  go_ret
  exact ⟨rfl, B10⟩

set_option maxHeartbeats 400000 in
theorem filters_big1 (PS L : List ByteArray) (ap al : Option Addr) (cp cl : Nat) (w : World) (hp : 20000 < bg 0 PS) (p1 : PS.length ≤ 140737488355328) (p2 : ∀ j, (PS.getD j ⟨#[]⟩).size ≤ 140737488355328) (hP : Strz w (.slice ap PS.length cp) PS) :
    Calls Try.prog 4 #[.slice ap PS.length cp, .slice al L.length cl] w fun e w' => e = .returned (.bool true) ∧ Below w.heap.size w w' := by
  have k1 : ∀ w', Strz w' (.slice ap PS.length cp) PS → Calls Try.prog 15 #[.slice ap PS.length cp] w' fun e w'' => e = .returned (.bool true) ∧ w'' = w' := fun w' h => by
    have := big_any PS _ w' p1 p2 h
    rwa [show decide (20000 < bg 0 PS) = true by simpa using hp] at this
  clear hp p2
  go_enter Try.func4, Try.ntmps4
  go_wp2_with fail
  refine (alive_any _).mono ?_
  rintro e w0 ⟨rfl, B0⟩
  have P0 := hP.below B0
  clear hP
  go_wp2_with fail
  refine (k1 _ P0).mono ?_
  rintro e w0' ⟨rfl, rfl⟩
  go_wp2
  go_ret
  exact ⟨rfl, B0⟩

set_option maxHeartbeats 400000 in
theorem filters_big2 (PS L : List ByteArray) (ap al : Option Addr) (cp cl : Nat) (w : World) (hp : ¬ 20000 < bg 0 PS) (hl : 20000 < bg 0 L) (p1 : PS.length ≤ 140737488355328) (p2 : ∀ j, (PS.getD j ⟨#[]⟩).size ≤ 140737488355328) (l1 : L.length ≤ 140737488355328) (l2 : ∀ j, (L.getD j ⟨#[]⟩).size ≤ 140737488355328)
    (hP : Strz w (.slice ap PS.length cp) PS) (hL : Strz w (.slice al L.length cl) L) :
    Calls Try.prog 4 #[.slice ap PS.length cp, .slice al L.length cl] w fun e w' => e = .returned (.bool true) ∧ Below w.heap.size w w' := by
  have k1 : ∀ w', Strz w' (.slice ap PS.length cp) PS → Calls Try.prog 15 #[.slice ap PS.length cp] w' fun e w'' => e = .returned (.bool false) ∧ w'' = w' := fun w' h => by
    have := big_any PS _ w' p1 p2 h
    rwa [show decide (20000 < bg 0 PS) = false by simpa using hp] at this
  have k2 : ∀ w', Strz w' (.slice al L.length cl) L → Calls Try.prog 15 #[.slice al L.length cl] w' fun e w'' => e = .returned (.bool true) ∧ w'' = w' := fun w' h => by
    have := big_any L _ w' l1 l2 h
    rwa [show decide (20000 < bg 0 L) = true by simpa using hl] at this
  clear hp hl p2 l2
  go_enter Try.func4, Try.ntmps4
  go_wp2_with fail
  refine (alive_any _).mono ?_
  rintro e w0 ⟨rfl, B0⟩
  have P0 := hP.below B0
  have L0 := hL.below B0
  clear hP hL
  go_wp2_with fail
  refine (k1 _ P0).mono ?_
  rintro e w0' ⟨rfl, rfl⟩
  go_wp2_with fail
  refine (k2 _ L0).mono ?_
  rintro e w0' ⟨rfl, rfl⟩
  go_wp2
  go_ret
  exact ⟨rfl, B0⟩

set_option maxHeartbeats 400000 in
theorem filters_many (PS L : List ByteArray) (ap al : Option Addr) (cp cl : Nat) (w : World) (hp : ¬ 20000 < bg 0 PS) (hl : ¬ 20000 < bg 0 L) (h40 : 40 < PS.length) (hP : Strz w (.slice ap PS.length cp) PS) (hL : Strz w (.slice al L.length cl) L) :
    Calls Try.prog 4 #[.slice ap PS.length cp, .slice al L.length cl] w fun e w' => e = .returned (.bool true) ∧ Below w.heap.size w w' := by
  obtain ⟨p1, p2⟩ := small PS hp
  obtain ⟨l1, l2⟩ := small L hl
  have k1 : ∀ w', Strz w' (.slice ap PS.length cp) PS → Calls Try.prog 15 #[.slice ap PS.length cp] w' fun e w'' => e = .returned (.bool false) ∧ w'' = w' := fun w' h => by
    have := big_any PS _ w' (by omega) (fun j => by have := p2 j; omega) h
    rwa [show decide (20000 < bg 0 PS) = false by simpa using hp] at this
  have k2 : ∀ w', Strz w' (.slice al L.length cl) L → Calls Try.prog 15 #[.slice al L.length cl] w' fun e w'' => e = .returned (.bool false) ∧ w'' = w' := fun w' h => by
    have := big_any L _ w' (by omega) (fun j => by have := l2 j; omega) h
    rwa [show decide (20000 < bg 0 L) = false by simpa using hl] at this
  clear hp hl p2 l2
  go_enter Try.func4, Try.ntmps4
  go_wp2_with fail
  refine (alive_any _).mono ?_
  rintro e w0 ⟨rfl, B0⟩
  have P0 := hP.below B0
  have L0 := hL.below B0
  clear hP hL
  go_wp2_with fail
  refine (k1 _ P0).mono ?_
  rintro e w0' ⟨rfl, rfl⟩
  go_wp2_with fail
  refine (k2 _ L0).mono ?_
  rintro e w0' ⟨rfl, rfl⟩
  go_wp2
  go_ret
  exact ⟨rfl, B0⟩

theorem filters_any (PS L : List ByteArray) (vp vl : Value) (w : World) (p1 : PS.length ≤ 140737488355328) (p2 : ∀ j, (PS.getD j ⟨#[]⟩).size ≤ 140737488355328) (l1 : L.length ≤ 140737488355328) (l2 : ∀ j, (L.getD j ⟨#[]⟩).size ≤ 140737488355328) (hP : Strz w vp PS) (hL : Strz w vl L) :
    Calls Try.prog 4 #[vp, vl] w fun e w' => e = .returned (.bool true) ∧ Below w.heap.size w w' := by
  obtain ⟨ap, cp, rfl, _⟩ := hP.txt
  obtain ⟨al, cl, rfl, _⟩ := hL.txt
  by_cases h1 : 20000 < bg 0 PS
  · exact filters_big1 PS L ap al cp cl w h1 p1 p2 hP
  · by_cases h2 : 20000 < bg 0 L
    · exact filters_big2 PS L ap al cp cl w h1 h2 p1 p2 l1 l2 hP hL
    · by_cases h3 : PS.length ≤ 40
      · exact filters_main PS L ap al cp cl w h1 h2 h3 hP hL
      · exact filters_many PS L ap al cp cl w h1 h2 (by omega) hP hL
end Go.Proofs.Ytbegdhbpcgflkaa
