import Derived.Test.YtabmnkddmdffkaaGreatDoorAFinG
import Derived.Test.YtabmnkddmdffkaaGreatDoorANewG
namespace Go.Proofs.YtabmnkddmdffkaaGreatDoor.Sk
open Go.RowKit Go.Shelf
theorem num_any (n : Int) (w : World) : Calls Tryz.prog 9 #[.int .i64 n] w fun r w' => r = .returned (.int .i64 n) ∧ w' = w := by
 go_enter Tryz.func9, Tryz.ntmps9
 go_wp2
 go_ret
 exact ⟨rfl, rfl⟩
theorem eq_fs_nil (b : Nat) (w : World) : (binOp .eql 30 (.pointer (some ⟨b, 0, none⟩)) (.pointer none)).run Tryz.prog w = .ok (.bool false) w := by kernel_rfl
def sNs : List Nv := [⟨[115, 114, 99], .slice none 0 0, ⟨true, 1, []⟩⟩, ⟨[115, 114, 99, 47, 120, 46, 99], .slice none 0 0, ⟨false, 2, []⟩⟩]
def sTr : Tr := [([115, 114, 99], ⟨true, 1, []⟩), ([115, 114, 99, 47, 120, 46, 99], ⟨false, 2, []⟩)]
theorem s_new : newR sNs 2 100 = .inr sTr := by kernel_rfl
set_option maxRecDepth 100000 in
theorem res20s (tmps : Array Value) (b : Nat) (x y z : Value) (W : World) (h4 : tmps.getD 0 undef = .pointer (some ⟨b, 0, none⟩)) (hb : W.heap[b]? = some (.cells #[x, y, z] 24 (0, 0))) : (results Tryz.f20 tmps).run Tryz.prog W = .ok (.agg #[x, y, z]) W := by
 simp only [Array.getD_eq_getD_getElem?] at h4
 have c0 : W.cell? ⟨b, 0, none⟩ = some x := by rw [Lib.cell_of_heap hb]; rfl
 have c1 : W.cell? ⟨b, 1, none⟩ = some y := by rw [Lib.cell_of_heap hb]; rfl
 have c2 : W.cell? ⟨b, 2, none⟩ = some z := by rw [Lib.cell_of_heap hb]; rfl
 simp [results, Tryz.results20, go_sem, h4, c0, c1, c2]
theorem s_nodes {W : World} {g : Nat} (hN : W.heap[g]? = some (.cells #[.string ⟨#[115, 114, 99]⟩, .bool true, .int .i64 1, .slice none 0 0, .string ⟨#[115, 114, 99, 47, 120, 46, 99]⟩, .bool false, .int .i64 2, .slice none 0 0] 60 (0, 0))) : Nodes W (.slice (some ⟨g, 0, none⟩) 2 2) sNs := by
 refine .inr ⟨g, 0, 2, rfl, Nat.le_refl _, ⟨lt_of_block hN, fun i n hi => ?_, fun i n hi => ?_, fun i n hi => ?_, fun i n hi => ?_⟩, fun n hn => ?_⟩
 ·rcases i with _ | _ | i
  ·cases hi; rw [Lib.cell_of_heap hN]; rfl
  ·cases hi; rw [Lib.cell_of_heap hN]; rfl
  ·simp [sNs] at hi
 ·rcases i with _ | _ | i
  ·cases hi; rw [Lib.cell_of_heap hN]; rfl
  ·cases hi; rw [Lib.cell_of_heap hN]; rfl
  ·simp [sNs] at hi
 ·rcases i with _ | _ | i
  ·cases hi; rw [Lib.cell_of_heap hN]; rfl
  ·cases hi; rw [Lib.cell_of_heap hN]; rfl
  ·simp [sNs] at hi
 ·rcases i with _ | _ | i
  ·cases hi; rw [Lib.cell_of_heap hN]; rfl
  ·cases hi; rw [Lib.cell_of_heap hN]; rfl
  ·simp [sNs] at hi
 ·simp only [sNs, List.mem_cons, List.not_mem_nil, or_false] at hn
  rcases hn with rfl | rfl
  ·exact .inl ⟨rfl, rfl⟩
  ·exact .inl ⟨rfl, rfl⟩
set_option maxRecDepth 100000 in
set_option maxHeartbeats 1000000 in
theorem small_any (w : World) : Calls Tryz.prog 20 #[] w fun r w' => (∃ g, r = .returned (.agg #[.slice (some ⟨g, 0, none⟩) 2 2, .int .i64 2, .int .i64 100]) ∧ Nodes w' (.slice (some ⟨g, 0, none⟩) 2 2) sNs) ∧ Below w.heap.size w w' := by
 go_enter Tryz.func20, Tryz.ntmps20
 go_wp2
 have a1 := World.alloc_heap_new w (.cells #[.slice (some ⟨w.heap.size + 1, 0, none⟩) 2 2, .int .i64 2, .int .i64 100] 24)
 have a2 := World.alloc_heap_new (w.alloc (.cells #[.slice (some ⟨w.heap.size + 1, 0, none⟩) 2 2, .int .i64 2, .int .i64 100] 24)) (.cells #[.string ⟨#[115, 114, 99]⟩, .bool true, .int .i64 1, .slice none 0 0, .string ⟨#[115, 114, 99, 47, 120, 46, 99]⟩, .bool false, .int .i64 2, .slice none 0 0] 60)
 rw [World.size_alloc] at a2
 refine bodyPost_ret (res20s _ _ _ _ _ _ rfl ((Below.heap_alloc _ _ _ (by simp)).trans a1)) rfl ?_
 exact ⟨⟨_, rfl, s_nodes a2⟩, ((Below.refl _ _).alloc (Nat.le_refl _) _).alloc (by simp) _⟩
theorem ch_of (B A : Nat) (Ea E : Addr) (T : Tr) (clk rm : Int) (S : Nat → Prop) (w : World) (h : IsFs w S A T clk rm) (hG : Gl B w Ea E) (hB : B ≤ w.heap.size) (PL : List Bs) (hno : ∀ y ∈ PL, isM y = false) (hsh : ∀ y ∈ PL, y.length ≤ 400000) (x : Tx.Wd) (w1 : World) (hx : Tx.bytesOf x ∈ PL) (hb : Below w.heap.size w w1) :
  Calls Tryz.prog 34 #[.pointer (some ⟨A, 0, none⟩), .string x.1] w1 fun e w' => ChV w' Ea e (stT T (clean (Tx.bytesOf x))) ∧ Below w1.heap.size w1 w' := by
 have h1 : x.1.size ≤ 400000 := by
  have h2 := hsh _ hx
  have h3 : (Tx.bytesOf x).length = x.1.size := by unfold Tx.bytesOf; simp
  omega
 have hG1 := hG.keep (hb.mono hB)
 have q := dated_plain A Ea x.1 (by have := x.2; omega) (hno _ hx) w1 hG1.ca (by have := hb.size; have := hG.lo; omega)
 exact changed_of B A Ea E T clk rm x.1 h1 S w1 (h.below hb) hG1 (Nat.le_trans hB hb.size) none q
theorem prs_one {W : World} {b : Nat} {x y : ByteArray} (h : W.heap[b]? = some (.cells #[.string x, .string y] 29 (0, 0))) : Prs W (some ⟨b, 0, none⟩) 1 [(x, y)] :=
 ⟨rfl, fun j hj => by
  obtain rfl : j = 0 := by omega
  exact ⟨b, rfl, lt_of_block h, ⟨_, h, rfl⟩, (x, y), rfl, by rw [Lib.cell_of_heap h]; rfl, by rw [Lib.cell_of_heap h]; rfl⟩⟩
theorem prs_none (W : World) (a : Option Addr) : Prs W a 0 [] := ⟨rfl, fun _ hj => absurd hj (Nat.not_lt_zero _)⟩
def sL : List Prw := [(⟨#[37, 46, 99]⟩, ⟨#[115, 114, 99]⟩)]
theorem s_find : fndP (fun p => stT sTr (clean p)) sL (tl ⟨#[120, 46, 99]⟩) (tl ⟨#[]⟩) = ([115, 114, 99, 47, 120, 46, 99], true) := by decide +kernel
theorem s_none : fndP (fun p => stT sTr (clean p)) [] (tl ⟨#[120, 46, 99]⟩) (tl ⟨#[]⟩) = ([120, 46, 99], false) := by decide +kernel
theorem s_pl : plL sL (tl ⟨#[120, 46, 99]⟩) (tl ⟨#[]⟩) = [[120, 46, 99], [115, 114, 99, 47, 120, 46, 99]] := by decide +kernel
theorem s_pl0 : plL [] (tl ⟨#[120, 46, 99]⟩) (tl ⟨#[]⟩) = [[120, 46, 99]] := by decide +kernel
theorem s_split : prV (tl ⟨#[108, 105, 98, 46, 97, 40, 120, 46, 111, 41]⟩) = .tuple #[.string ⟨#[108, 105, 98, 46, 97]⟩, .string ⟨#[120, 46, 111]⟩, .bool true] := by
 have h1 : isM (tl ⟨#[108, 105, 98, 46, 97, 40, 120, 46, 111, 41]⟩) = true := by decide +kernel
 have h2 : pA (tl ⟨#[108, 105, 98, 46, 97, 40, 120, 46, 111, 41]⟩) = [108, 105, 98, 46, 97] := by decide +kernel
 have h3 : pM (tl ⟨#[108, 105, 98, 46, 97, 40, 120, 46, 111, 41]⟩) = [120, 46, 111] := by decide +kernel
 unfold prV
 rw [h1, h2, h3]
set_option maxRecDepth 100000 in
set_option maxHeartbeats 2000000 in
theorem alive_any (B : Nat) (Ea E : Addr) (w : World) (hG : Gl B w Ea E) (hB : B ≤ w.heap.size) : Calls Tryz.prog 5 #[] w fun r w' => r = .returned (.bool true) ∧ Below w.heap.size w w' := by
 have HG := hide' hG
 clear hG
 go_enter Tryz.func5, Tryz.ntmps5
 go_wp2_with fail
 refine (small_any _).mono ?_
 rintro r w1 ⟨⟨g, rfl, hv⟩, hb1⟩
 have q1 := New_any B E _ sNs 2 100 w1 hv (HG.out.glo.keep (hb1.mono hB)) (Nat.le_trans hB hb1.size) (by intro n hn; simp only [sNs, List.mem_cons, List.not_mem_nil, or_false] at hn; rcases hn with rfl | rfl <;> simp)
 rw [s_new] at q1
 clear hv
 go_wp2_with fail
 refine q1.mono ?_
 rintro r w2 ⟨hb2, A, rfl, hf2⟩
 have hB2 := hb1.trans (hb2.mono hb1.size)
 have he := fun w => eq_fs_nil A w
 have HF := hide' hf2
 have HB := hide' hB2
 have hs2 := hB2.size
 clear q1 hb1 hb2 hf2 hB2
 go_wp2_with fail
 refine (num_any 0 _).mono ?_
 rintro r w3 ⟨rfl, rfl⟩
 have hb3 : Below w3.heap.size w3 (w3.alloc (.cells #[.string ⟨#[37, 46, 99]⟩, .string ⟨#[115, 114, 99]⟩] 29)) := (Below.refl _ _).alloc (Nat.le_refl _) _
 have hp3 : Prs (w3.alloc (.cells #[.string ⟨#[37, 46, 99]⟩, .string ⟨#[115, 114, 99]⟩] 29)) (some ⟨w3.heap.size, 0, none⟩) 1 sL := prs_one (World.alloc_heap_new w3 _)
 have hB3 := HB.out.trans (hb3.mono hs2)
 have q2 := Find_any B A Ea E (some ⟨w3.heap.size, 0, none⟩) 1 1 sL ⟨#[120, 46, 99]⟩ ⟨#[]⟩ (fun p => stT sTr (clean p)) (by omega) (by decide) (by decide) (by intro p hp; simp only [sL, List.mem_singleton] at hp; subst hp; decide) _ (HG.out.keep (hB3.mono hB)) (Nat.le_trans hB hB3.size) hp3
  (ch_of B A Ea E sTr 2 100 _ _ (HF.out.below hb3) (HG.out.keep (hB3.mono hB)) (Nat.le_trans hB hB3.size) _ (by rw [s_pl]; intro y hy; simp only [List.mem_cons, List.not_mem_nil, or_false] at hy; rcases hy with rfl | rfl <;> decide +kernel) (by rw [s_pl]; intro y hy; simp only [List.mem_cons, List.not_mem_nil, or_false] at hy; rcases hy with rfl | rfl <;> decide))
 rw [s_find] at q2
 clear hp3
 go_wp2_with fail
 refine q2.mono ?_
 rintro r w4 ⟨rfl, hb4⟩
 have hB4 := hB3.trans (hb4.mono hB3.size)
 have hF4 := (HF.out.below hb3).below hb4
 clear q2 hb3 hb4 hB3
 have hs4 := hB4.size
 have q3 := Find_any B A Ea E none 0 0 [] ⟨#[120, 46, 99]⟩ ⟨#[]⟩ (fun p => stT sTr (clean p)) (by omega) (by decide) (by decide) (by intro p hp; cases hp) _ (HG.out.keep (hB4.mono hB)) (Nat.le_trans hB hB4.size) (prs_none _ _)
  (ch_of B A Ea E sTr 2 100 _ _ hF4 (HG.out.keep (hB4.mono hB)) (Nat.le_trans hB hB4.size) _ (by rw [s_pl0]; intro y hy; simp only [List.mem_cons, List.not_mem_nil, or_false] at hy; subst hy; decide +kernel) (by rw [s_pl0]; intro y hy; simp only [List.mem_cons, List.not_mem_nil, or_false] at hy; subst hy; decide))
 rw [s_none] at q3
 have HB4 := hide' hB4
 clear hF4 hB4 HF HB
 go_wp2_with fail
 refine q3.mono ?_
 rintro r w5 ⟨rfl, hb5⟩
 have q4 := Split_any ⟨#[108, 105, 98, 46, 97, 40, 120, 46, 111, 41]⟩ (by decide) w5
 rw [s_split] at q4
 have hB5 := HB4.out.trans (hb5.mono hs4)
 have hs5 := hB5.size
 clear q3 hb5
 go_wp2_with fail
 refine q4.mono ?_
 rintro r w6 ⟨rfl, hb6⟩
 have hB6 := hB5.trans (hb6.mono hs5)
 clear q4 hb6 hB5
 go_wp2
 go_ret
 exact ⟨rfl, hB6⟩
end Go.Proofs.YtabmnkddmdffkaaGreatDoor.Sk
