/- The contract of lex.Lex. -/
import Derived.Test.YtcemlhfodpelaaaGreatDoorZt
import Derived.Test.YtcemlhfodpelaaaGreatDoorRec
namespace Go.Proofs.YtcemlhfodpelaaaGreatDoor
open Go.RowKit Go.Shelf
attribute [local go_sem] run_store_nilFunc run_store_func

/-- what Lex answers, in memory -/
def LexR (w : World) (R : Fin) (e : Ending) (w' : World) : Prop :=
  Below w.heap.size w w' ∧ match R with
    | .toks l => ∃ tv, e = .returned (.tuple #[tv, .int .i64 0]) ∧ w'.ownsRow w.heap.size 60 2 tv l.length (flat l) ∧ l.length ≤ 5000
    | .err n => e = .returned (.tuple #[.slice none 0 0, .int .i64 n])
    | .none => True
def joinedB (s : Bs) : Bs := Lib.replaceAll s [92, 10] []
def Glob (w : World) : Prop := 1 < w.heap.size ∧ ∃ m, w.cell? ⟨1, 0, none⟩ = some (.int .i64 m)
theorem Glob.below {w w' : World} (h : Glob w) (hb : Below w.heap.size w w') : Glob w' :=
  ⟨Nat.lt_of_lt_of_le h.1 hb.size, by obtain ⟨m, hm⟩ := h.2; exact ⟨m, (hb.cell (p := ⟨1, 0, none⟩) h.1).trans hm⟩⟩
theorem replaceK_le (old : Bs) : ∀ (k : Nat) (s : Bs), (Lib.replaceK old [] k s).length ≤ s.length
  | 0, _ => Nat.le_refl _
  | k + 1, s => by
    unfold Lib.replaceK
    split
    · exact Nat.le_refl _
    · have := replaceK_le old k (s.drop ((Lib.index s old).toNat + old.length))
      rw [List.length_drop] at this
      simp only [List.length_append, List.length_take, List.length_nil]
      omega
theorem joined_le (s : Bs) : (joinedB s).length ≤ s.length := by
  unfold joinedB Lib.replaceAll Lib.replace
  split
  · exact Nat.le_refl _
  · exact replaceK_le _ _ _
theorem repl_any (s : ByteArray) (w : World) (hs : s.size ≤ 65536) (hG : Glob w) :
    Calls Tryz.prog 28 #[.string s, .string ⟨#[92, 10]⟩, .string ⟨#[]⟩] w fun e w' => e = .returned (.string (mk (joinedB (tl s)))) ∧ Below w.heap.size w w' := by
  obtain ⟨m, hm⟩ := hG.2
  exact Tryz.strings_ReplaceAll s ⟨#[92, 10]⟩ ⟨#[]⟩ m w (by omega) hm (by decide) (by rw [show (⟨#[]⟩ : ByteArray).size = 0 from rfl]; omega)
theorem glob_alloc {w : World} (h : Glob w) (o : Obj) : Glob (w.alloc o) := h.below ((Below.refl _ _).alloc (Nat.le_refl _) _)
/-- the two results' variables, laid -/
theorem vars_laid (w : World) (n : Int) : ∃ W, W = (w.alloc (.cells #[.slice none 0 0] 44)).alloc (.cells #[.int .i64 n] 29) ∧ Below w.heap.size w W ∧ W.heap.size = w.heap.size + 2 ∧ W.heap[w.heap.size]? = some (.cells #[.slice none 0 0] 44 (0, 0)) ∧ W.heap[w.heap.size + 1]? = some (.cells #[.int .i64 n] 29 (0, 0)) := by
  refine ⟨_, rfl, ((Below.refl _ _).alloc (Nat.le_refl _) _).alloc (by simp) _, by simp, (Lib.alloc_old _ _ _ (by simp)).trans (heap_alloc_new w _), ?_⟩
  have := heap_alloc_new (w.alloc (.cells #[.slice none 0 0] 44)) (.cells #[.int .i64 n] 29)
  simpa using this
theorem cell_one {W : World} {b : Nat} {x : Value} {t : TypeId} (h : W.heap[b]? = some (.cells #[x] t (0, 0))) : W.cell? ⟨b, 0, none⟩ = some x := by rw [Lib.cell_of_heap h]; rfl
set_option maxHeartbeats 1000000 in
theorem lex_long (s : ByteArray) (w : World) (hs : 65536 < s.size) :
    Calls Tryz.prog 15 #[.string s] w (LexR w (.err 2)) := by
  have hi : (65536 : Int) < (s.size : Int) := by omega
  obtain ⟨W, hW, hb0, hz, hr1, hr2⟩ := vars_laid w 2
  have c1 := cell_one hr1
  have c2 := cell_one hr2
  have HW := hide' hW
  have HB := hide' hb0
  clear hW hb0 hr1 hr2
  go_enter_defers Tryz.func15, Tryz.ntmps15
  go_wp2_with fail
  rw [← HW.out]
  refine ⟨.tuple #[.slice none 0 0, .int .i64 2], by simp [results, Tryz.results15, go_sem, c1, c2], HB.out, rfl⟩
/-- the results' variables, written -/
theorem vars_set {w w2 : World} {b : Nat} {x y : Value} (hw : Below b w w2) (h1 : w2.heap[b]? = some (.cells #[x] 44 (0, 0))) (h2 : w2.heap[b + 1]? = some (.cells #[y] 29 (0, 0))) (u v : Value) :
    (w2.setCell ⟨b, 0, none⟩ u).cell? ⟨b + 1, 0, none⟩ = some y ∧ (w2.setCell ⟨b, 0, none⟩ u).frozen? ⟨b + 1, 0, none⟩ = false ∧
    ((w2.setCell ⟨b, 0, none⟩ u).setCell ⟨b + 1, 0, none⟩ v).cell? ⟨b, 0, none⟩ = some u ∧ ((w2.setCell ⟨b, 0, none⟩ u).setCell ⟨b + 1, 0, none⟩ v).cell? ⟨b + 1, 0, none⟩ = some v ∧
    Below b w ((w2.setCell ⟨b, 0, none⟩ u).setCell ⟨b + 1, 0, none⟩ v) ∧ ∀ g, g ≠ b → g ≠ b + 1 → ((w2.setCell ⟨b, 0, none⟩ u).setCell ⟨b + 1, 0, none⟩ v).heap[g]? = w2.heap[g]? := by
  have a1 : (w2.setCell ⟨b, 0, none⟩ u).heap[b]? = some (.cells #[u] 44 (0, 0)) := set_block h1 0 u
  have a2 : (w2.setCell ⟨b, 0, none⟩ u).heap[b + 1]? = some (.cells #[y] 29 (0, 0)) := (set_other _ _ _ _ (by omega)).trans h2
  have d1 : ((w2.setCell ⟨b, 0, none⟩ u).setCell ⟨b + 1, 0, none⟩ v).heap[b]? = some (.cells #[u] 44 (0, 0)) := (set_other _ _ _ _ (by omega)).trans a1
  have d2 : ((w2.setCell ⟨b, 0, none⟩ u).setCell ⟨b + 1, 0, none⟩ v).heap[b + 1]? = some (.cells #[v] 29 (0, 0)) := set_block a2 0 v
  exact ⟨cell_one a2, Lib.frozen_of_heap a2 0, cell_one d1, cell_one d2,
    ⟨hw.os, hw.tape, hw.output, Nat.le_trans hw.size (Nat.le_of_eq (by simp)), fun k hk => (set_other _ _ _ _ (by omega)).trans ((set_other _ _ _ _ (by omega)).trans (hw.block k hk))⟩,
    fun g h1 h2 => (set_other _ _ _ _ h2).trans (set_other _ _ _ _ h1)⟩
theorem own_mono {w : World} {B B' e size n : Nat} {v : Value} {xs : List Value} (h : w.ownsRow B e size v n xs) (hB : B' ≤ B) : w.ownsRow B' e size v n xs := by
  refine ⟨h.1, ?_⟩
  rcases h.2 with h | ⟨g, cap, cur, rfl, hg, r⟩
  · exact .inl h
  · exact .inr ⟨g, cap, cur, rfl, by omega, r⟩
set_option maxHeartbeats 1000000 in
theorem lex_toks (s : ByteArray) (w : World) (k : Nat) (tk : List (Nat × Bs)) (hs : s.size ≤ 65536) (hG : Glob w) (hR : run (joinedB (tl s)) k .bw ⟨0, 0, [], []⟩ = .toks tk) :
    Calls Tryz.prog 15 #[.string s] w (LexR w (.toks tk)) := by
  have hmf : ∀ (fn : Fn) (first cap : Array Value) (w : World), (Instr.makeFunc fn first cap).run Tryz.prog w = .ok (.func fn first cap) w := fun _ _ _ _ => rfl
  have hi : ¬ (65536 : Int) < (s.size : Int) := by omega
  obtain ⟨W, hW, hb0, hz, hr1, hr2⟩ := vars_laid w 0
  have hGW : Glob W := hG.below hb0
  have hjl := joined_le (tl s)
  rw [tl_len] at hjl
  have qr := repl_any s W hs hGW
  generalize joinedB (tl s) = J at hR hjl qr
  have HW := hide' hW
  have HR := hide' hR
  have H0 := hide' (And.intro hb0 (And.intro hr1 hr2))
  clear hW hb0 hr1 hr2 hR hG
  go_enter_defers Tryz.func15, Tryz.ntmps15
  go_wp2_with fail
  rw [← HW.out]
  refine qr.mono ?_
  rintro e w1 ⟨rfl, hb1⟩
  have hG1 := hGW.below hb1
  clear qr
  go_wp2_with fail
  refine (tokens_any w1 (mk J) k (.toks tk) (by rw [mk_size]; omega) hG1 (by rw [tl_mk]; exact HR.out) (by simp)).mono ?_
  rintro e w2 ⟨hb2, tv, rfl, hown, hle⟩
  have hs1 := hb1.size
  have hs2 := hb2.size
  have hr1 := (hb2.block w.heap.size (by omega)).trans ((hb1.block w.heap.size (by omega)).trans H0.out.2.1)
  have hr2 := (hb2.block (w.heap.size + 1) (by omega)).trans ((hb1.block (w.heap.size + 1) (by omega)).trans H0.out.2.2)
  have hB2 : Below w.heap.size w w2 := (H0.out.1.trans (hb1.mono (by omega))).trans (hb2.mono (by omega))
  have c1 := cell_one hr1
  have f1 := Lib.frozen_of_heap hr1 0
  obtain ⟨c2, f2, d1, d2, hB, hg⟩ := vars_set hB2 hr1 hr2 tv (.int .i64 0)
  obtain ⟨ta, tc, htv⟩ : ∃ a c, tv = .slice a tk.length c := by
    rcases hown.2 with ⟨h1, h2⟩ | ⟨g, cap, cur, h1, _⟩
    · exact ⟨_, _, by rw [h1, h2]⟩
    · exact ⟨_, _, h1⟩
  have hO := own_mono (B' := w.heap.size) (own_kept hown fun g hgg => hg g (by have := own_low hown g hgg; omega) (by have := own_low hown g hgg; omega)) (by omega)
  rw [htv] at c2 f2 d1 d2 hB hO ⊢
  have HO := hide' (And.intro hB hO)
  have HD := hide' (And.intro d1 d2)
  clear hown hb1 hb2 hr1 hr2 hg hB2 hB hO d1 d2
  go_wp2_with fail
  refine leaves_cons (f := 26) (args := #[.pointer (some ⟨w.heap.size, 0, none⟩), .pointer (some ⟨w.heap.size + 1, 0, none⟩)]) (by simp) (by simp [go_sem]) ?_
  refine (catch_idle ⟨w.heap.size, 0, none⟩ ⟨w.heap.size + 1, 0, none⟩ _).mono ?_
  rintro e u' w'' ⟨rfl, rfl, rfl⟩
  refine ⟨.tuple #[.slice ta tk.length tc, .int .i64 0], by simp [results, Tryz.results15, go_sem, HD.out.1, HD.out.2], HO.out.1, _, rfl, HO.out.2, hle⟩
set_option maxHeartbeats 1000000 in
theorem lex_err (s : ByteArray) (w : World) (k n : Nat) (hs : s.size ≤ 65536) (hG : Glob w) (hR : run (joinedB (tl s)) k .bw ⟨0, 0, [], []⟩ = .err n) :
    Calls Tryz.prog 15 #[.string s] w (LexR w (.err n)) := by
  have hmf : ∀ (fn : Fn) (first cap : Array Value) (w : World), (Instr.makeFunc fn first cap).run Tryz.prog w = .ok (.func fn first cap) w := fun _ _ _ _ => rfl
  have hi : ¬ (65536 : Int) < (s.size : Int) := by omega
  obtain ⟨W, hW, hb0, hz, hr1, hr2⟩ := vars_laid w 0
  have hGW : Glob W := hG.below hb0
  have hjl := joined_le (tl s)
  rw [tl_len] at hjl
  have qr := repl_any s W hs hGW
  generalize joinedB (tl s) = J at hR hjl qr
  have HW := hide' hW
  have HR := hide' hR
  have H0 := hide' (And.intro hb0 (And.intro hr1 hr2))
  clear hW hb0 hr1 hr2 hR hG
  go_enter_defers Tryz.func15, Tryz.ntmps15
  go_wp2_with fail
  rw [← HW.out]
  refine qr.mono ?_
  rintro e w1 ⟨rfl, hb1⟩
  have hG1 := hGW.below hb1
  clear qr
  go_wp2_with fail
  refine (tokens_any w1 (mk J) k (.err n) (by rw [mk_size]; omega) hG1 (by rw [tl_mk]; exact HR.out) (by simp)).mono ?_
  rintro e w2 ⟨hb2, rfl⟩
  have hs1 := hb1.size
  have hs2 := hb2.size
  have hr1 := (hb2.block w.heap.size (by omega)).trans ((hb1.block w.heap.size (by omega)).trans H0.out.2.1)
  have hr2 := (hb2.block (w.heap.size + 1) (by omega)).trans ((hb1.block (w.heap.size + 1) (by omega)).trans H0.out.2.2)
  have hB2 : Below w.heap.size w w2 := (H0.out.1.trans (hb1.mono (by omega))).trans (hb2.mono (by omega))
  have c1 := cell_one hr1
  have f1 := Lib.frozen_of_heap hr1 0
  obtain ⟨c2, f2, d1, d2, hB, hg⟩ := vars_set hB2 hr1 hr2 (.slice none 0 0) (.int .i64 n)
  refine leaves_cons (f := 26) (args := #[.pointer (some ⟨w.heap.size, 0, none⟩), .pointer (some ⟨w.heap.size + 1, 0, none⟩)]) (by simp) (by simp [go_sem]) ?_
  refine (catch_panicking ⟨w.heap.size, 0, none⟩ ⟨w.heap.size + 1, 0, none⟩ _ _ n [] _ c1 f1 c2 f2).mono ?_
  rintro e u' w'' ⟨rfl, rfl, rfl⟩
  refine ⟨.tuple #[.slice none 0 0, .int .i64 n], by simp [results, Tryz.results15, go_sem, d1, d2], hB, rfl⟩
/-- what Lex answers of a text -/
def lexF (s : Bs) : Fin := if 65536 < s.length then .err 2 else run (joinedB s) (3 * s.length + 10) .bw ⟨0, 0, [], []⟩
theorem lex_any (s : ByteArray) (w : World) (hG : Glob w) (hne : lexF (tl s) ≠ .none) : Calls Tryz.prog 15 #[.string s] w (LexR w (lexF (tl s))) := by
  unfold lexF at hne ⊢
  rw [tl_len] at hne ⊢
  by_cases hs : 65536 < s.size
  · rw [if_pos hs]; exact lex_long s w hs
  · rw [if_neg hs] at hne ⊢
    cases hR : run (joinedB (tl s)) (3 * s.size + 10) .bw ⟨0, 0, [], []⟩ with
    | toks tk => exact lex_toks s w _ tk (by omega) hG hR
    | err n => exact lex_err s w _ n (by omega) hG hR
    | none => exact absurd hR hne
end Go.Proofs.YtcemlhfodpelaaaGreatDoor
