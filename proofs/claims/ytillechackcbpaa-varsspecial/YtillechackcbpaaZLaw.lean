/- The law VarsSpecial: it answers true at all inputs. -/
import Derived.Test.YtillechackcbpaaZSpec
import Derived.Test.YtillechackcbpaaAl
namespace Go.Proofs.Ytillechackcbpaa.Sp
open Go.RowKit Go.Shelf Go.Maps

/-- both stores, alike, with the four endings, beyond a world's blocks -/
structure SpS (w0 w : World) (A : Nat) (m : Option Nat) (R : Nat) (v : Value) (L : Vs) (E : Nat) : Prop where
  both : Both w A m R v L
  row : Rowz w E [⟨#[68]⟩, ⟨#[70]⟩, ⟨#[88]⟩, ⟨#[]⟩]
  below : Below w0.heap.size w0 w
theorem SpS.more {w0 w w' : World} {A : Nat} {m : Option Nat} {R : Nat} {v : Value} {L : Vs} {E : Nat} (h : SpS w0 w A m R v L E) (hb : Below w.heap.size w w') : SpS w0 w' A m R v L E :=
  ⟨h.both.below hb, h.row.below hb, h.below.trans (hb.mono h.below.size)⟩
theorem sps_new (w0 w : World) (A : Nat) (m : Option Nat) (R : Nat) (v : Value) (L : Vs) (h : Both w A m R v L) (hb : Below w0.heap.size w0 w) :
    SpS w0 (w.alloc (.cells #[.string ⟨#[68]⟩, .string ⟨#[70]⟩, .string ⟨#[88]⟩, .string ⟨#[]⟩] 9)) A m R v L w.heap.size :=
  ⟨h.below (below_alloc (Below.refl _ _) (Nat.le_refl _) _), ⟨_, heap_alloc_new w _, rfl⟩, below_alloc hb (Nat.le_refl _) _⟩
/-- both stores, new -/
theorem both_new (w : World) : Both ((w.alloc (.cells #[.map none] 54)).alloc (.cells #[.slice none 0 0] 30)) w.heap.size none (w.heap.size + 1) (.slice none 0 0) [] := by
  refine ⟨(st_new w).below (below_alloc (Below.refl _ _) (Nat.le_refl _) _), ?_, .inl ⟨rfl, rfl⟩, List.Pairwise.nil, fun _ h => (by cases h), Nat.zero_le _⟩
  have := heap_alloc_new (w.alloc (.cells #[.map none] 54)) (.cells #[.slice none 0 0] 30)
  rw [World.size_alloc] at this
  exact this
theorem new_below (w : World) : Below w.heap.size w ((w.alloc (.cells #[.map none] 54)).alloc (.cells #[.slice none 0 0] 30)) :=
  below_alloc (below_alloc (Below.refl _ _) (Nat.le_refl _) _) (Nat.le_refl _) _
theorem set_bnd (p v : Bs) (f o : Int) (hv : v.length ≤ 300000) : Bnd 300000 (setL [] p v f o) := Bnd.set (fun e he => by cases he) p v f o hv
set_option maxRecDepth 100000 in
set_option maxHeartbeats 4000000 in
theorem sp_main (n v : Bs) (o : Int) (w : World) (hn : n.length ≤ 10) (hv : v.length ≤ 5000) (h1 : 1 ≤ o) (h7 : o ≤ 7) :
    Calls Try.prog 4 #[.string (mk n), .string (mk v), .int .i64 o] w fun r w' => r = .returned (.bool true) ∧ Below w.heap.size w w' := by
  have q1 : Hid (∀ W : World, Calls Try.prog 16 #[.pointer (some ⟨W.heap.size, 0, none⟩), .string (mk n), .string (mk v), .int .i64 2, .int .i64 o] ((W.alloc (.cells #[.map none] 54)).alloc (.cells #[.slice none 0 0] 30)) fun r w' => (∃ b, r = .returned (.bool b)) ∧ ∃ m', Chg ((W.alloc (.cells #[.map none] 54)).alloc (.cells #[.slice none 0 0] 30)) w' W.heap.size none m' (setL [] n v 2 o)) := fun W => by
    refine (set_any W.heap.size none [] n v 2 o _ (both_new W).st (by omega) (by omega)).mono ?_
    rintro r w' ⟨rfl, hc⟩
    exact ⟨⟨_, rfl⟩, hc⟩
  have q2 : Hid (∀ (W w' : World) (m' : Option Nat), Chg ((W.alloc (.cells #[.map none] 54)).alloc (.cells #[.slice none 0 0] 30)) w' W.heap.size none m' (setL [] n v 2 o) → Calls Try.prog 17 #[.pointer (some ⟨W.heap.size + 1, 0, none⟩), .string (mk n), .string (mk v), .int .i64 2, .int .i64 o] w' fun r w'' => (∃ b, r = .returned (.bool b)) ∧ ∃ v', Both w'' W.heap.size m' (W.heap.size + 1) v' (setL [] n v 2 o) ∧ Below W.heap.size W w'') := fun W w' m' hc => by
    refine (rset_any (W.heap.size + 1) (.slice none 0 0) [] n v 2 o w' ((Chg.kb (both_new W).st hc).rf (both_new W).rf)).mono ?_
    rintro r w'' ⟨rfl, v', hd⟩
    have hb := both_step (both_new W) hc hd
    refine ⟨⟨_, rfl⟩, v', hb.both, (new_below W).trans (hb.turn.below (new_below W).size fun k hk => ?_)⟩
    rcases hk with (rfl | hk) | (rfl | hk)
    · exact Nat.le_refl _
    · cases hk
    · omega
    · cases hk
  have q3 : Hid (∀ (w0 W : World) (A : Nat) (m : Option Nat) (R : Nat) (u : Value) (E : Nat) (x : ByteArray), SpS w0 W A m R u (setL [] n v 2 o) E → Calls Try.prog 18 #[.pointer (some ⟨A, 0, none⟩), .string (mk n ++ x)] W fun r w' => r = .returned (.tuple #[.string (spec (setL [] n v 2 o) (n ++ tl x)).1, .bool (spec (setL [] n v 2 o) (n ++ tl x)).2]) ∧ SpS w0 w' A m R u (setL [] n v 2 o) E) := fun w0 W A m R u E x h => by
    have := special_any A m _ (n ++ tl x) W h.both.st (set_bnd n v 2 o (by omega))
    rw [show mk (n ++ tl x) = mk n ++ x from tl_inj _ _ (by simp [tl])] at this
    refine this.mono ?_
    rintro r w' ⟨rfl, hb⟩
    exact ⟨rfl, h.more hb⟩
  have q4 : Hid (∀ (w0 W : World) (A : Nat) (m : Option Nat) (R : Nat) (u : Value) (E : Nat) (x : ByteArray), SpS w0 W A m R u (setL [] n v 2 o) E → Calls Try.prog 19 #[.pointer (some ⟨R, 0, none⟩), .string (mk n ++ x)] W fun r w' => r = .returned (.tuple #[.string (spec (setL [] n v 2 o) (n ++ tl x)).1, .bool (spec (setL [] n v 2 o) (n ++ tl x)).2]) ∧ SpS w0 w' A m R u (setL [] n v 2 o) E) := fun w0 W A m R u E x h => by
    have := rspecial_any R u _ (n ++ tl x) W h.both.rf (set_bnd n v 2 o (by omega))
    rw [show mk (n ++ tl x) = mk n ++ x from tl_inj _ _ (by simp [tl])] at this
    refine this.mono ?_
    rintro r w' ⟨rfl, hb⟩
    exact ⟨rfl, h.more hb⟩
  have k1 : ¬ (10 : Int) < (mk n).size := by rw [mk_size]; omega
  have k2 : ¬ (5000 : Int) < (mk v).size := by rw [mk_size]; omega
  have k3 : ¬ o < 1 := by omega
  have k4 : ¬ 7 < o := by omega
  generalize setL [] n v 2 o = L at q1 q2 q3 q4
  obtain ⟨sp, hsp⟩ : ∃ sp : ByteArray → ByteArray × Bool, sp = fun x => spec L (n ++ tl x) := ⟨_, rfl⟩
  replace q3 : Hid (∀ (w0 W : World) (A : Nat) (m : Option Nat) (R : Nat) (u : Value) (E : Nat) (x : ByteArray), SpS w0 W A m R u L E → Calls Try.prog 18 #[.pointer (some ⟨A, 0, none⟩), .string (mk n ++ x)] W fun r w' => r = .returned (.tuple #[.string (sp x).1, .bool (sp x).2]) ∧ SpS w0 w' A m R u L E) := by rw [hsp]; exact q3
  replace q4 : Hid (∀ (w0 W : World) (A : Nat) (m : Option Nat) (R : Nat) (u : Value) (E : Nat) (x : ByteArray), SpS w0 W A m R u L E → Calls Try.prog 19 #[.pointer (some ⟨R, 0, none⟩), .string (mk n ++ x)] W fun r w' => r = .returned (.tuple #[.string (sp x).1, .bool (sp x).2]) ∧ SpS w0 w' A m R u L E) := by rw [hsp]; exact q4
  clear hsp
  generalize mk n = s at q1 q2 q3 q4 k1 ⊢
  generalize mk v = t at q1 q2 k2 ⊢
  clear hn hv h1 h7
  go_enter Try.func4, Try.ntmps4
  go_wp2_with fail
  refine (alive_any w).mono ?_
  rintro r w1 ⟨rfl, hb1⟩
  have HB1 := hide' hb1
  clear hb1
  go_wp2_with fail
  refine (new_any w1).mono ?_
  rintro r w2 ⟨rfl, rfl⟩
  go_wp2_with fail
  refine (q1.out w1).mono ?_
  rintro r w3 ⟨⟨b3, rfl⟩, m', hc⟩
  have HC := hide' hc
  clear hc
  go_wp2_with fail
  refine (q2.out w1 w3 m' HC.out).mono ?_
  rintro r w4 ⟨⟨b4, rfl⟩, v', hbo, hbe⟩
  have HS := hide' (sps_new w1 w4 w1.heap.size m' (w1.heap.size + 1) v' L hbo hbe)
  clear HC hbo hbe q1 q2
  go_wp2
  go_loopw [11] (fun i wr => ∃ k : Nat, k ≤ 4 ∧ i = .int .i64 k ∧ SpS w1 wr w1.heap.size m' (w1.heap.size + 1) v' L w4.heap.size) (fun i _ => 4 - (intOf i).toNat)
  case atStart => exact ⟨0, Nat.zero_le _, rfl, HS.out⟩
  case round =>
    obtain ⟨k, hk, rfl, hs⟩ := hrel
    clear HS
    by_cases hlt : k < 4
    · have c1 := hs.row.cell (j := k) hlt
      have hl4 : (k : Int) < 4 := by omega
      have HR := hide' (fun (W : World) (h : SpS w1 W w1.heap.size m' (w1.heap.size + 1) v' L w4.heap.size) => h.row.cell (j := k) hlt)
      have hx : (([⟨#[68]⟩, ⟨#[70]⟩, ⟨#[88]⟩, ⟨#[]⟩] : List ByteArray).getD k ⟨#[]⟩).size ≤ 1 := by
        match k, hlt with
        | 0, _ => exact Nat.le_refl _
        | 1, _ => exact Nat.le_refl _
        | 2, _ => exact Nat.le_refl _
        | 3, _ => exact Nat.zero_le _
      generalize ([⟨#[68]⟩, ⟨#[70]⟩, ⟨#[88]⟩, ⟨#[]⟩] : List ByteArray).getD k ⟨#[]⟩ = x at c1 HR hx
      have Q3 := q3.out _ _ _ _ _ _ _ x hs
      have Q4 : Hid (∀ W, SpS w1 W w1.heap.size m' (w1.heap.size + 1) v' L w4.heap.size → _) := fun W h => q4.out _ W _ _ _ _ _ x h
      generalize sp x = y at Q3 Q4
      obtain ⟨a, b⟩ := y
      dsimp only at Q3 Q4
      clear hs q3 q4
      go_wp2_with fail
      refine Q3.mono ?_
      rintro r w5 ⟨rfl, hs5⟩
      have c5 := HR.out _ hs5
      have HS5 := hide' hs5
      clear Q3 c1 hs5 HR
      go_wp2_with fail
      refine (Q4.out _ HS5.out).mono ?_
      rintro r w6 ⟨rfl, hs6⟩
      have HS6 := hide' hs6
      clear Q4 hs6 HS5 c5
      go_wp2
      exact ⟨⟨k + 1, by omega, by go_num, HS6.out⟩, by simp [intOf]; omega⟩
    · clear q3 q4
      have hl4 : ¬ (k : Int) < 4 := by omega
      have HB := hide' (HB1.out.trans (hs.below.mono HB1.out.size))
      clear hs
      go_wp2
      go_ret
      exact ⟨rfl, HB.out⟩
set_option maxRecDepth 100000 in
set_option maxHeartbeats 2000000 in
theorem sp_out (n v : Bs) (o : Int) (w : World) (h : ¬ (n.length ≤ 10 ∧ v.length ≤ 5000 ∧ 1 ≤ o ∧ o ≤ 7)) :
    Calls Try.prog 4 #[.string (mk n), .string (mk v), .int .i64 o] w fun r w' => r = .returned (.bool true) ∧ Below w.heap.size w w' := by
  have q := alive_any w
  have e1 : (mk n).size = n.length := mk_size n
  have e2 : (mk v).size = v.length := mk_size v
  generalize mk n = s at e1 ⊢
  generalize mk v = t at e2 ⊢
  by_cases h1 : (10 : Int) < s.size
  · clear h e1 e2
    go_enter Try.func4, Try.ntmps4
    go_wp2_with fail
    refine q.mono ?_
    rintro r w1 ⟨rfl, hb1⟩
    go_wp2
    go_ret
    exact ⟨rfl, hb1⟩
  by_cases h2 : (5000 : Int) < t.size
  · clear h e1 e2
    go_enter Try.func4, Try.ntmps4
    go_wp2_with fail
    refine q.mono ?_
    rintro r w1 ⟨rfl, hb1⟩
    go_wp2
    go_ret
    exact ⟨rfl, hb1⟩
  by_cases h3 : o < 1
  · clear h e1 e2
    go_enter Try.func4, Try.ntmps4
    go_wp2_with fail
    refine q.mono ?_
    rintro r w1 ⟨rfl, hb1⟩
    go_wp2
    go_ret
    exact ⟨rfl, hb1⟩
  · have h4 : 7 < o := by omega
    clear h e1 e2
    go_enter Try.func4, Try.ntmps4
    go_wp2_with fail
    refine q.mono ?_
    rintro r w1 ⟨rfl, hb1⟩
    go_wp2
    go_ret
    exact ⟨rfl, hb1⟩
theorem sp_any (n v : Bs) (o : Int) (w : World) :
    Calls Try.prog 4 #[.string (mk n), .string (mk v), .int .i64 o] w fun r w' => r = .returned (.bool true) ∧ Below w.heap.size w w' := by
  by_cases h : n.length ≤ 10 ∧ v.length ≤ 5000 ∧ 1 ≤ o ∧ o ≤ 7
  · exact sp_main n v o w h.1 h.2.1 h.2.2.1 h.2.2.2
  · exact sp_out n v o w h
end Go.Proofs.Ytillechackcbpaa.Sp
