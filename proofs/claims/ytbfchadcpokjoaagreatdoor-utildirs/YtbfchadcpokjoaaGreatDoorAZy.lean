/- slices.Sorted(maps.Keys(m)) at this program; the contract of (*FS).Tree at an empty tree. The contract of (*FS).Tree: the nodes in a row of their own, rising, each with bytes of its own. -/
import Derived.Test.YtbfchadcpokjoaaGreatDoorAZl
import Derived.Test.YtbfchadcpokjoaaGreatDoorAGoodOps
import Derived.Test.YtbfchadcpokjoaaGreatDoorAZg
import Derived.Test.YtbfchadcpokjoaaGreatDoorAZf
import Derived.Deep.AppendLies
namespace Go.Proofs
section
open Go.RowKit Go.Maps Go.Sort Go.Shelf

theorem Tryz.sorts36 (m : Nat) : AnyZ.SortsIn Tryz.prog Tryz.sorted36_ren Fence.wide m :=
  ⟨fun blk off cap ss W hH hblk hsz => callsIn_wide.2 (AnyM.slices_Sort_string Tryz.laysSlM6_f68 blk off cap ss W hH hblk hsz),
   fun p cap W => callsIn_wide.2 (AnyM.slices_Sort_string_none Tryz.laysSlM6_f68 p cap W)⟩

theorem Tryz.maps_Keys_37 (mb : Option Nat) (W : World) : CallsIn Fence.wide 5 Tryz.prog 29 #[.map mb] W fun e w' => e = .returned (.func (.func 60) #[] #[.pointer (some ⟨W.heap.size, 0, none⟩)]) ∧ w' = W.alloc (.cells #[.map mb] 75) :=
  AnyZ.keys_in Tryz.keys37 Fence.wide 5 trivial rfl mb W

set_option maxHeartbeats 1000000 in
theorem Tryz.slices_Sorted_keys_36_37 {H : Type} (b nn : Nat) (D0 : DataW H) (R : Value → Option (DataW H × List MemPlace)) (w : World) (hown : w.ownsMap Tryz.prog 9 R b nn D0) (hmax : Maps.size D0 ≤ maxLen) (hbytes : Maps.size D0 * 16 ≤ 140737488355328) :
    CallsIn Fence.wide 5 Tryz.prog 28 #[.func (.func 60) #[] #[.pointer (some ⟨w.heap.size, 0, none⟩)]] (w.alloc (.cells #[.map (some b)] 75)) fun e w' => ∃ (v : Value) (ss : List (List UInt8)), e = .returned v ∧ ss.Perm (strKeys D0) ∧
      w'.ownsRow (w.alloc (.cells #[.map (some b)] 75)).heap.size 9 1 v ss.length ((ss.mergeSort (fun x y => decide (x ≤ y))).map encStr) ∧ (v = .slice none 0 0 ↔ ss = []) ∧ Below (w.alloc (.cells #[.map (some b)] 75)).heap.size (w.alloc (.cells #[.map (some b)] 75)) w' := by
  have hbl := hown.lt
  have hseq : SeqGives Fence.wide 2 Tryz.prog 60 #[.pointer (some ⟨w.heap.size, 0, none⟩)] encStr (fun ss => ss.Perm (strKeys D0)) (Maps.size D0) (w.alloc (.cells #[.map (some b)] 75)) :=
    AnyZ.keys_gives (ρ := Tryz.keys37_ren) { Tryz.keys37 with } Fence.wide _ trivial rfl (by omega) w.heap.size b nn D0 _ (by simp) (by simp) (by
      obtain ⟨es, clock, hb, Ft, hs, hD⟩ := hown
      exact ⟨es, clock, (Below.heap_alloc _ _ b hbl).trans hb, Ft, hs, hD⟩)
  exact AnyZ.sorted_in Tryz.sorted36 Fence.wide 5 trivial trivial trivial trivial rfl (by omega) (Tryz.sorts36 _) (enters_of Tryz.func59 (by kernel_rfl) rfl) 60 #[.pointer (some ⟨w.heap.size, 0, none⟩)] trivial (enters_of Tryz.func60 (by kernel_rfl) rfl) _ _ hmax hbytes _ hseq

end
namespace YtbfchadcpokjoaaGreatDoor
open Go.RowKit Go.Maps
structure TrC (A : Nat) (clk rm : Int) (w : World) : Prop where
  c0 : w.cell? ⟨A, 2, none⟩ = some (.int .i64 clk)
  c1 : w.cell? ⟨A, 3, none⟩ = some (.int .i64 rm)
theorem cutN_nil (w : World) : Calls Tryz.prog 31 #[.slice none 0 0] w fun r w' => r = .returned (.slice none 0 0) ∧ w' = w := by
  go_enter Tryz.func31, Tryz.ntmps31
  go_wp2
  go_ret
  exact ⟨rfl, rfl⟩
theorem res15 (tmps : Array Value) (b : Nat) (x y z : Value) (W : World) (h4 : tmps.getD 2 undef = .pointer (some ⟨b, 0, none⟩)) (hb : W.heap[b]? = some (.cells #[x, y, z] 28 (0, 0))) : (results Tryz.f18 tmps).run Tryz.prog W = .ok (.agg #[x, y, z]) W := by
  simp only [Array.getD_eq_getD_getElem?] at h4
  have c0 : W.cell? ⟨b, 0, none⟩ = some x := by rw [Lib.cell_of_heap hb]; rfl
  have c1 : W.cell? ⟨b, 1, none⟩ = some y := by rw [Lib.cell_of_heap hb]; rfl
  have c2 : W.cell? ⟨b, 2, none⟩ = some z := by rw [Lib.cell_of_heap hb]; rfl
  simp [results, Tryz.results18, go_sem, h4, c0, c1, c2]
set_option maxRecDepth 100000 in
set_option maxHeartbeats 2000000 in
theorem Tree_none (A : Nat) (clk rm : Int) (S : Nat → Prop) (w : World) (h : IsFs w S A [] clk rm) :
    Calls Tryz.prog 18 #[.pointer (some ⟨A, 0, none⟩)] w fun r w' => r = .returned (.agg #[.slice none 0 0, .int .i64 clk, .int .i64 rm]) ∧ Below w.heap.size w w' := by
  obtain ⟨M, L, hF, hO, hL⟩ := h.mem
  obtain rfl : L = [] := List.map_eq_nil_iff.1 hL
  have hA := hF.fb.lt
  have b0 : Below w.heap.size w (w.alloc (.cells #[.slice none 0 0, .int .i64 0, .int .i64 0] 28)) := (Below.refl _ _).alloc (Nat.le_refl _) _
  have hF1 := hF.below b0
  have hTc : TrC A clk rm (w.alloc (.cells #[.slice none 0 0, .int .i64 0, .int .i64 0] 28)).drew := ⟨hF1.fb.c2, hF1.fb.c3⟩
  go_enter Tryz.func18, Tryz.ntmps18
  go_wp2_with fail
  refine (orEmpty_some A _).mono ?_
  rintro r w0 ⟨rfl, rfl⟩
  go_wp2
  refine wp_region_class (C := TrC A clk rm) (by kernel_rfl) ?_
  (refine wpAnyC_take (i := 0) (v := ?_) hTc rfl (by kernel_rfl) (by kernel_rfl) (by kernel_rfl) (fun _ _ _ h => h) (Or.inl ⟨by kernel_rfl, ?_⟩) ?_; rotate_left; (intro w hc; have k0 := hc.c0; have k1 := hc.c1; clear hc; go_simp; try with_reducible rfl))
  (refine wpAnyC_take (i := 1) (v := ?_) hTc rfl (by kernel_rfl) (by kernel_rfl) (by kernel_rfl) (fun _ _ _ h => h) (Or.inl ⟨by kernel_rfl, ?_⟩) ?_; rotate_left; (intro w hc; have k0 := hc.c0; have k1 := hc.c1; clear hc; go_simp; try with_reducible rfl))
  (refine wpAnyC_take (i := 2) (v := ?_) hTc rfl (by kernel_rfl) (by kernel_rfl) (by kernel_rfl) (fun _ _ _ h => h) (Or.inl ⟨by kernel_rfl, ?_⟩) ?_; rotate_left; (intro w hc; have k0 := hc.c0; have k1 := hc.c1; clear hc; go_simp; try with_reducible rfl))
  (refine wpAnyC_take (i := 3) (v := ?_) hTc rfl (by kernel_rfl) (by kernel_rfl) (by kernel_rfl) (fun _ _ _ h => h) (Or.inl ⟨by kernel_rfl, ?_⟩) ?_; rotate_left; (intro w hc; have k0 := hc.c0; have k1 := hc.c1; clear hc; go_simp; try with_reducible rfl))
  (refine wpAnyC_take (i := 4) (v := ?_) hTc rfl (by kernel_rfl) (by kernel_rfl) (by kernel_rfl) (fun _ _ _ h => h) (Or.inl ⟨by kernel_rfl, ?_⟩) ?_; rotate_left; (intro w hc; have k0 := hc.c0; have k1 := hc.c1; clear hc; go_simp; try with_reducible rfl))
  (refine wpAnyC_take (i := 5) (v := ?_) hTc rfl (by kernel_rfl) (by kernel_rfl) (by kernel_rfl) (fun _ _ _ h => h) (Or.inl ⟨by kernel_rfl, ?_⟩) ?_; rotate_left; (intro w hc; have k0 := hc.c0; have k1 := hc.c1; clear hc; go_simp; try with_reducible rfl))
  (refine wpAnyC_take (i := 6) (v := ?_) hTc rfl (by kernel_rfl) (by kernel_rfl) (by kernel_rfl) (fun _ _ _ h => h) (Or.inl ⟨by kernel_rfl, ?_⟩) ?_; rotate_left; (intro w hc; have k0 := hc.c0; have k1 := hc.c1; clear hc; go_simp; try with_reducible rfl))
  (refine wpAnyC_take (i := 7) (v := ?_) hTc rfl (by kernel_rfl) (by kernel_rfl) (by kernel_rfl) (fun _ _ _ h => h) (Or.inl ⟨by kernel_rfl, ?_⟩) ?_; rotate_left; (intro w hc; have k0 := hc.c0; have k1 := hc.c1; clear hc; go_simp; try with_reducible rfl))
  (refine wpAnyC_take (i := 8) (v := ?_) hTc rfl (by kernel_rfl) (by kernel_rfl) (by kernel_rfl) (fun _ _ _ h => h) (Or.inl ⟨by kernel_rfl, ?_⟩) ?_; rotate_left; (intro w hc; have k0 := hc.c0; have k1 := hc.c1; clear hc; go_simp; try with_reducible rfl))
  have b1 : ∀ o, Below w.heap.size w ((w.alloc (.cells #[.slice none 0 0, .int .i64 0, .int .i64 0] 28)).alloc o) := fun o => b0.alloc (by simp) o
  have hF2 := fun o => hF.below (b1 o)
  have hTc2 : TrC A clk rm ((w.alloc (.cells #[.slice none 0 0, .int .i64 0, .int .i64 0] 28)).alloc (.cells #[.slice none 0 0, .int .i64 0, .int .i64 0] 28)).drew := ⟨(hF2 _).fb.c2, (hF2 _).fb.c3⟩
  have hTc3 : TrC A clk rm ((w.alloc (.cells #[.slice none 0 0, .int .i64 0, .int .i64 0] 28)).alloc (.cells #[.slice none 0 0, .int .i64 clk, .int .i64 rm] 28)).drew := ⟨(hF2 _).fb.c2, (hF2 _).fb.c3⟩
  refine wpAnyC_one (i := 9) (by kernel_rfl) (wpOp_wanted rfl (by rfl) ?_)
  go_simp
  refine wpAnyC_one (i := 10) (by kernel_rfl) (wpOp_wanted rfl (by rfl) ?_)
  go_simp
  refine wpAnyC_done (by kernel_rfl) ?_ _
  obtain ⟨W, hW⟩ : ∃ W, W = ((w.alloc (.cells #[.slice none 0 0, .int .i64 0, .int .i64 0] 28)).alloc (.cells #[.slice none 0 0, .int .i64 clk, .int .i64 rm] 28)).drew := ⟨_, rfl⟩
  have hBW : Below w.heap.size w W := by rw [hW]; exact (b1 _).drew
  have hFW := hF.below hBW
  have hsW : w.heap.size + 1 < W.heap.size := by rw [hW]; show _ < ((w.alloc _).alloc _).heap.size; simp
  have hz1 : W.heap[w.heap.size]? = some (.cells #[.slice none 0 0, .int .i64 0, .int .i64 0] 28 (0, 0)) := by rw [hW]; exact (Below.heap_alloc _ _ _ (by simp)).trans (alloc_new _ _)
  have hz2 : W.heap[w.heap.size + 1]? = some (.cells #[.slice none 0 0, .int .i64 clk, .int .i64 rm] 28 (0, 0)) := by
    rw [hW]
    have q := alloc_new (w.alloc (.cells #[.slice none 0 0, .int .i64 0, .int .i64 0] 28)) (.cells #[.slice none 0 0, .int .i64 clk, .int .i64 rm] 28)
    rw [size_alloc'] at q
    exact q
  rw [← hW]
  clear hW hTc hTc2 hTc3 hF2 b1 b0 hF1
  have f0 := hFW.fb.c0
  go_wp2_with fail
  refine (callsIn_wide.1 (Tryz.maps_Keys_37 _ _)).mono ?_
  rintro r W1 ⟨rfl, hW1⟩
  have q := callsIn_wide.1 (Tryz.slices_Sorted_keys_36_37 (H := Unit) M 0 (datum (blks [])) ptrElem W hFW.mp (by simp [datum_size, blks]) (by simp [datum_size, blks]))
  subst hW1
  go_wp2_with fail
  refine q.mono ?_
  rintro r W2 ⟨v, ss, rfl, hp, hrow, hnil, hb2⟩
  obtain rfl : ss = [] := by rw [datum_keys] at hp; exact List.Perm.eq_nil (by simpa [blks] using hp)
  obtain rfl : v = .slice none 0 0 := hnil.2 rfl
  have hb2' : Below W.heap.size W W2 := ((Below.refl _ _).alloc (Nat.le_refl _) _).trans (hb2.mono (by simp))
  have hB2 := hBW.trans (hb2'.mono hBW.size)
  have y1 := (hb2'.block _ (by omega)).trans hz1
  have y2 := (hb2'.block _ hsW).trans hz2
  clear hrow hnil hp hb2 q hz1 hz2 f0 hFW hF
  go_wp2
  go_loopw [5, 6, 25] (fun _ _ i wr => i = .int .i64 0 ∧ wr = W2) (fun _ _ _ _ => 0)
  case atStart => exact ⟨rfl, rfl⟩
  case round =>
    obtain ⟨rfl, rfl⟩ := hrel
    have z0 : wr.cell? ⟨w.heap.size + 1, 0, none⟩ = some (.slice none 0 0) := by rw [Lib.cell_of_heap y2]; rfl
    have z1 : wr.cell? ⟨w.heap.size + 1, 1, none⟩ = some (.int .i64 clk) := by rw [Lib.cell_of_heap y2]; rfl
    have z2 : wr.cell? ⟨w.heap.size + 1, 2, none⟩ = some (.int .i64 rm) := by rw [Lib.cell_of_heap y2]; rfl
    have t0 : wr.cell? ⟨w.heap.size, 0, none⟩ = some (.slice none 0 0) := by rw [Lib.cell_of_heap y1]; rfl
    have t1 : wr.cell? ⟨w.heap.size, 1, none⟩ = some (.int .i64 0) := by rw [Lib.cell_of_heap y1]; rfl
    have t2 : wr.cell? ⟨w.heap.size, 2, none⟩ = some (.int .i64 0) := by rw [Lib.cell_of_heap y1]; rfl
    have g0 := Lib.frozen_of_heap y1 0
    have g1 := Lib.frozen_of_heap y1 1
    have g2 := Lib.frozen_of_heap y1 2
    have g3 := Lib.frozen_of_heap y2 0
    go_wp2_with fail
    refine (cutN_nil _).mono ?_
    rintro r w4 ⟨rfl, rfl⟩
    go_wp2
    have y3 := (Below.heap_setCell w4 ⟨w.heap.size + 1, 0, none⟩ (.slice none 0 0) w.heap.size (by simp)).trans y1
    refine bodyPost_ret (res15 _ _ _ _ _ _ rfl (set_row (set_row (set_row y3 0 _) 1 _) 2 _)) rfl ?_
    exact ⟨rfl, (((hB2.setCell (p := ⟨w.heap.size + 1, 0, none⟩) (Nat.le_succ _) _).setCell (p := ⟨w.heap.size, 0, none⟩) (Nat.le_refl _) _).setCell (p := ⟨w.heap.size, 1, none⟩) (Nat.le_refl _) _).setCell (p := ⟨w.heap.size, 2, none⟩) (Nat.le_refl _) _⟩
end YtbfchadcpokjoaaGreatDoor
end Go.Proofs
namespace Go.Proofs.YtbfchadcpokjoaaGreatDoor
open Go.RowKit Go.Maps

def cellsN (n : Nv) : List Value := [.string (mk n.path), .bool n.nd.dir, .int .i64 n.nd.time, n.dv]
def flat (ns : List Nv) : List Value := ns.flatMap cellsN
theorem flat_len (ns : List Nv) : (flat ns).length = ns.length * 4 := by
  induction ns with
  | nil => rfl
  | cons n r ih =>
    have : flat (n :: r) = cellsN n ++ flat r := rfl
    rw [this, List.length_append, ih, List.length_cons]
    show 4 + _ = _
    omega
theorem flat_at : ∀ (ns : List Nv) (i r : Nat) (n : Nv), ns[i]? = some n → r < 4 → (flat ns)[i * 4 + r]? = (cellsN n)[r]?
  | [], i, r, n, h, _ => by simp at h
  | m :: s, 0, r, n, h, hr => by
    obtain rfl : m = n := by simpa using h
    have : flat (m :: s) = cellsN m ++ flat s := rfl
    rw [this, Nat.zero_mul, Nat.zero_add, List.getElem?_append_left (by show r < 4; exact hr)]
  | m :: s, i + 1, r, n, h, hr => by
    have : flat (m :: s) = cellsN m ++ flat s := rfl
    rw [this, List.getElem?_append_right (by show 4 ≤ _; omega)]
    have e : (i + 1) * 4 + r - (cellsN m).length = i * 4 + r := by show (i + 1) * 4 + r - 4 = _; omega
    rw [e]
    exact flat_at s i r n (by simpa using h) hr
/-- a row of nodes, and their bytes, in blocks from b0 on -/
structure NsAt (w : World) (b0 : Nat) (v : Value) (ns : List Nv) : Prop where
  row : (v = .slice none 0 0 ∧ ns = []) ∨ ∃ g cap cur, v = .slice (some ⟨g, 0, none⟩) ns.length cap ∧ b0 ≤ g ∧ w.heap[g]? = some (.cells cur 35 (0, 0)) ∧ ns.length ≤ cap ∧ cap * 4 ≤ cur.size ∧ cur.toList.take (ns.length * 4) = flat ns
  dat : ∀ n ∈ ns, Dat w n.dv n.nd.data
  hi : ∀ n ∈ ns, ∀ g, n.dv.ownBlock = some g → b0 ≤ g
theorem cell_row {w : World} {g : Nat} {cur : Array Value} {T : TypeId} {ns : List Nv} (hg : w.heap[g]? = some (.cells cur T (0, 0))) (ht : cur.toList.take (ns.length * 4) = flat ns) {i r : Nat} {n : Nv} {u : Value} (hn : ns[i]? = some n) (hr : r < 4) (hu : (cellsN n)[r]? = some u) :
    w.cell? ⟨g, i * 4 + r, none⟩ = some u := by
  rw [Lib.cell_of_heap hg]
  have hil : i < ns.length := (List.getElem?_eq_some_iff.1 hn).1
  have h1 := flat_at ns i r n hn hr
  rw [← ht, List.getElem?_take_of_lt (by omega), hu] at h1
  simpa using h1
theorem NsAt.nodes {w : World} {b0 : Nat} {v : Value} {ns : List Nv} (h : NsAt w b0 v ns) : Nodes w v ns := by
  rcases h.row with ⟨rfl, rfl⟩ | ⟨g, cap, cur, rfl, hb, hg, hc, hs, ht⟩
  · exact .inl ⟨⟨_, _, rfl⟩, rfl⟩
  · refine .inr ⟨g, 0, cap, rfl, hc, ⟨lt_of_block hg, fun i n hi => ?_, fun i n hi => ?_, fun i n hi => ?_, fun i n hi => ?_⟩, fun n hn => (h.dat n hn).rds⟩
    · rw [Nat.zero_add]; exact cell_row hg ht (r := 0) hi (by omega) rfl
    · rw [Nat.zero_add]; exact cell_row hg ht (r := 1) hi (by omega) rfl
    · rw [Nat.zero_add]; exact cell_row hg ht (r := 2) hi (by omega) rfl
    · rw [Nat.zero_add]; exact cell_row hg ht (r := 3) hi (by omega) rfl
theorem NsAt.below {w w' : World} {b0 : Nat} {v : Value} {ns : List Nv} (h : NsAt w b0 v ns) (hb : Below w.heap.size w w') : NsAt w' b0 v ns := by
  refine ⟨?_, fun n hn => (h.dat n hn).kept fun g hg => hb.block g ((h.dat n hn).lt g hg), h.hi⟩
  rcases h.row with h1 | ⟨g, cap, cur, rfl, h2, hg, r⟩
  · exact .inl h1
  · exact .inr ⟨g, cap, cur, rfl, h2, (hb.block g (lt_of_block hg)).trans hg, r⟩
theorem NsAt.mono {w : World} {b0 b1 : Nat} {v : Value} {ns : List Nv} (h : NsAt w b0 v ns) (hb : b1 ≤ b0) : NsAt w b1 v ns := by
  refine ⟨?_, h.dat, fun n hn g hg => Nat.le_trans hb (h.hi n hn g hg)⟩
  rcases h.row with h1 | ⟨g, cap, cur, rfl, h2, r⟩
  · exact .inl h1
  · exact .inr ⟨g, cap, cur, rfl, Nat.le_trans hb h2, r⟩
theorem NsAt.nil (w : World) (b0 : Nat) : NsAt w b0 (.slice none 0 0) [] := ⟨.inl ⟨rfl, rfl⟩, fun n hn => (by cases hn), fun n hn => (by cases hn)⟩

theorem cutN_some (g n cap : Nat) (h : n ≤ cap) (_hc : cap ≤ maxLen) (w : World) : Calls Tryz.prog 31 #[.slice (some ⟨g, 0, none⟩) n cap] w fun r w' => r = .returned (.slice (some ⟨g, 0, none⟩) n n) ∧ w' = w := by
  go_enter Tryz.func31, Tryz.ntmps31
  go_wp2
  go_ret
  exact ⟨rfl, rfl⟩

/-- the class of worlds in a round -/
structure TgC (b tb : Nat) (d : Bool) (t : Int) (dv va : Value) (w : World) : Prop where
  c0 : w.cell? ⟨b, 0, none⟩ = some (.bool d)
  c1 : w.cell? ⟨b, 1, none⟩ = some (.int .i64 t)
  c2 : w.cell? ⟨b, 2, none⟩ = some dv
  cg : w.cell? ⟨tb, 0, none⟩ = some va
theorem TgC.below {b tb : Nat} {d : Bool} {t : Int} {dv va : Value} {w w' : World} (h : TgC b tb d t dv va w) (hb : Below w.heap.size w w') (h1 : b < w.heap.size) (h2 : tb < w.heap.size) : TgC b tb d t dv va w' :=
  ⟨(hb.cell (p := ⟨b, 0, none⟩) h1).trans h.c0, (hb.cell (p := ⟨b, 1, none⟩) h1).trans h.c1, (hb.cell (p := ⟨b, 2, none⟩) h1).trans h.c2, (hb.cell (p := ⟨tb, 0, none⟩) h2).trans h.cg⟩
theorem info55 : (Tryz.prog.info? 35).map (fun i : TypeInfo => (i.zero, i.size, i.bytes)) = some (some (.agg #[.string ⟨#[]⟩, .bool false, .int .i64 0, .slice none 0 0]), 4, 56) := by kernel_rfl

theorem dat_grown {w w' : World} {v va : Value} {bs : Bs} {base n : Nat} {xs : List Value} (hd : Dat w v bs) (ho : w.ownsRow base 35 4 va n xs) (hg : w.grownBy w' va.ownBlock) : Dat w' v bs := by
  refine hd.kept fun g hgb => hg.block g (hd.lt g hgb) fun e => ?_
  rcases ho.2 with ⟨rfl, _⟩ | ⟨g', cap, cur, rfl, _, hr, _⟩
  · cases e
  · obtain ⟨cur', hc⟩ := hd.elem g hgb
    have e1 : g = g' := Option.some.inj e
    rw [e1, hr] at hc
    simp at hc
theorem own_kept {w w' : World} {base n : Nat} {v : Value} {xs : List Value} (h : w.ownsRow base 35 4 v n xs) (hb : Below w.heap.size w w') : w'.ownsRow base 35 4 v n xs := by
  refine ⟨h.1, ?_⟩
  rcases h.2 with h1 | ⟨g, cap, cur, rfl, h2, hg, r⟩
  · exact .inl h1
  · exact .inr ⟨g, cap, cur, rfl, h2, (hb.block g (lt_of_block hg)).trans hg, r⟩
theorem news_cells (w : World) (n : Nv) : ∀ j u, (cellsN n)[j]? = some u → (w.alloc (.cells #[.string (mk n.path), .bool n.nd.dir, .int .i64 n.nd.time, n.dv] 35)).cell? ((⟨w.heap.size, 0, none⟩ : Addr).add j) = some u := by
  intro j u hj
  rw [add_zero, Lib.cell_of_heap (alloc_new _ _)]
  simpa [cellsN] using hj
theorem news_one (p : Bs) (a : Option Addr) (m c : Nat) {n : Nd} : ∀ u ∈ cellsN ⟨p, .slice a m c, n⟩, u.oneCell' = true := by
  intro u hu
  simp only [cellsN, List.mem_cons, List.not_mem_nil, or_false] at hu
  rcases hu with rfl | rfl | rfl | rfl <;> rfl
set_option maxRecDepth 100000 in
set_option maxHeartbeats 4000000 in
theorem Tree_some (A M : Nat) (L : Ents) (wt clk rm : Int) (w : World) (h : FsAt w A M L wt clk rm) (hne : 0 < L.length) (hll : L.length ≤ 1000) (hsz : ∀ e ∈ L, e.2.nd.data.length ≤ 1099511627776) :
    Calls Tryz.prog 18 #[.pointer (some ⟨A, 0, none⟩)] w fun r w' => (∃ v ns, r = .returned (.agg #[v, .int .i64 clk, .int .i64 rm]) ∧ NsAt w' w.heap.size v ns ∧ ns.map toE = nds L) ∧ Below w.heap.size w w' := by
  have hA := h.fb.lt
  have b0 : Below w.heap.size w (w.alloc (.cells #[.slice none 0 0, .int .i64 0, .int .i64 0] 28)) := (Below.refl _ _).alloc (Nat.le_refl _) _
  have hF1 := h.below b0
  have hTc : TrC A clk rm (w.alloc (.cells #[.slice none 0 0, .int .i64 0, .int .i64 0] 28)).drew := ⟨hF1.fb.c2, hF1.fb.c3⟩
  go_enter Tryz.func18, Tryz.ntmps18
  go_wp2_with fail
  refine (orEmpty_some A _).mono ?_
  rintro r w0 ⟨rfl, rfl⟩
  go_wp2
  refine wp_region_class (C := TrC A clk rm) (by kernel_rfl) ?_
  (refine wpAnyC_take (i := 0) (v := ?_) hTc rfl (by kernel_rfl) (by kernel_rfl) (by kernel_rfl) (fun _ _ _ h => h) (Or.inl ⟨by kernel_rfl, ?_⟩) ?_; rotate_left; (intro w hc; have k0 := hc.c0; have k1 := hc.c1; clear hc; go_simp; try with_reducible rfl))
  (refine wpAnyC_take (i := 1) (v := ?_) hTc rfl (by kernel_rfl) (by kernel_rfl) (by kernel_rfl) (fun _ _ _ h => h) (Or.inl ⟨by kernel_rfl, ?_⟩) ?_; rotate_left; (intro w hc; have k0 := hc.c0; have k1 := hc.c1; clear hc; go_simp; try with_reducible rfl))
  (refine wpAnyC_take (i := 2) (v := ?_) hTc rfl (by kernel_rfl) (by kernel_rfl) (by kernel_rfl) (fun _ _ _ h => h) (Or.inl ⟨by kernel_rfl, ?_⟩) ?_; rotate_left; (intro w hc; have k0 := hc.c0; have k1 := hc.c1; clear hc; go_simp; try with_reducible rfl))
  (refine wpAnyC_take (i := 3) (v := ?_) hTc rfl (by kernel_rfl) (by kernel_rfl) (by kernel_rfl) (fun _ _ _ h => h) (Or.inl ⟨by kernel_rfl, ?_⟩) ?_; rotate_left; (intro w hc; have k0 := hc.c0; have k1 := hc.c1; clear hc; go_simp; try with_reducible rfl))
  (refine wpAnyC_take (i := 4) (v := ?_) hTc rfl (by kernel_rfl) (by kernel_rfl) (by kernel_rfl) (fun _ _ _ h => h) (Or.inl ⟨by kernel_rfl, ?_⟩) ?_; rotate_left; (intro w hc; have k0 := hc.c0; have k1 := hc.c1; clear hc; go_simp; try with_reducible rfl))
  (refine wpAnyC_take (i := 5) (v := ?_) hTc rfl (by kernel_rfl) (by kernel_rfl) (by kernel_rfl) (fun _ _ _ h => h) (Or.inl ⟨by kernel_rfl, ?_⟩) ?_; rotate_left; (intro w hc; have k0 := hc.c0; have k1 := hc.c1; clear hc; go_simp; try with_reducible rfl))
  (refine wpAnyC_take (i := 6) (v := ?_) hTc rfl (by kernel_rfl) (by kernel_rfl) (by kernel_rfl) (fun _ _ _ h => h) (Or.inl ⟨by kernel_rfl, ?_⟩) ?_; rotate_left; (intro w hc; have k0 := hc.c0; have k1 := hc.c1; clear hc; go_simp; try with_reducible rfl))
  (refine wpAnyC_take (i := 7) (v := ?_) hTc rfl (by kernel_rfl) (by kernel_rfl) (by kernel_rfl) (fun _ _ _ h => h) (Or.inl ⟨by kernel_rfl, ?_⟩) ?_; rotate_left; (intro w hc; have k0 := hc.c0; have k1 := hc.c1; clear hc; go_simp; try with_reducible rfl))
  (refine wpAnyC_take (i := 8) (v := ?_) hTc rfl (by kernel_rfl) (by kernel_rfl) (by kernel_rfl) (fun _ _ _ h => h) (Or.inl ⟨by kernel_rfl, ?_⟩) ?_; rotate_left; (intro w hc; have k0 := hc.c0; have k1 := hc.c1; clear hc; go_simp; try with_reducible rfl))
  have b1 : ∀ o, Below w.heap.size w ((w.alloc (.cells #[.slice none 0 0, .int .i64 0, .int .i64 0] 28)).alloc o) := fun o => b0.alloc (by simp) o
  have hF2 := fun o => h.below (b1 o)
  have hTc2 : TrC A clk rm ((w.alloc (.cells #[.slice none 0 0, .int .i64 0, .int .i64 0] 28)).alloc (.cells #[.slice none 0 0, .int .i64 0, .int .i64 0] 28)).drew := ⟨(hF2 _).fb.c2, (hF2 _).fb.c3⟩
  have hTc3 : TrC A clk rm ((w.alloc (.cells #[.slice none 0 0, .int .i64 0, .int .i64 0] 28)).alloc (.cells #[.slice none 0 0, .int .i64 clk, .int .i64 rm] 28)).drew := ⟨(hF2 _).fb.c2, (hF2 _).fb.c3⟩
  refine wpAnyC_one (i := 9) (by kernel_rfl) (wpOp_wanted rfl (by rfl) ?_)
  go_simp
  refine wpAnyC_one (i := 10) (by kernel_rfl) (wpOp_wanted rfl (by rfl) ?_)
  go_simp
  refine wpAnyC_done (by kernel_rfl) ?_ _
  obtain ⟨W, hW⟩ : ∃ W, W = ((w.alloc (.cells #[.slice none 0 0, .int .i64 0, .int .i64 0] 28)).alloc (.cells #[.slice none 0 0, .int .i64 clk, .int .i64 rm] 28)).drew := ⟨_, rfl⟩
  have hBW : Below w.heap.size w W := by rw [hW]; exact (b1 _).drew
  have hFW := h.below hBW
  have hsW : w.heap.size + 1 < W.heap.size := by rw [hW]; show _ < ((w.alloc _).alloc _).heap.size; simp
  have hz1 : W.heap[w.heap.size]? = some (.cells #[.slice none 0 0, .int .i64 0, .int .i64 0] 28 (0, 0)) := by rw [hW]; exact (Below.heap_alloc _ _ _ (by simp)).trans (alloc_new _ _)
  have hz2 : W.heap[w.heap.size + 1]? = some (.cells #[.slice none 0 0, .int .i64 clk, .int .i64 rm] 28 (0, 0)) := by
    rw [hW]
    have q := alloc_new (w.alloc (.cells #[.slice none 0 0, .int .i64 0, .int .i64 0] 28)) (.cells #[.slice none 0 0, .int .i64 clk, .int .i64 rm] 28)
    rw [size_alloc'] at q
    exact q
  rw [← hW]
  clear hW hTc hTc2 hTc3 hF2 b1 b0 hF1
  have f0 := hFW.fb.c0
  have hlen0 : (blks L).length = L.length := by simp [blks]
  go_wp2_with fail
  refine (callsIn_wide.1 (Tryz.maps_Keys_37 _ _)).mono ?_
  rintro r W1 ⟨rfl, hW1⟩
  have q := callsIn_wide.1 (Tryz.slices_Sorted_keys_36_37 (H := Unit) M L.length (datum (blks L)) ptrElem W hFW.mp (by rw [datum_size, hlen0]; unfold maxLen; omega) (by rw [datum_size, hlen0]; omega))
  subst hW1
  go_wp2_with fail
  refine q.mono ?_
  rintro r W2 ⟨v, ss, rfl, hp, hrow, hnil, hb2⟩
  have hK : (L.map (·.1)).Pairwise (fun a b => bytesBefore a b = true) := List.pairwise_map.2 h.srt
  have hkeys : (blks L).map (·.1) = L.map (·.1) := by simp [blks]
  rw [datum_keys, hkeys] at hp
  have hsl : ss.length = L.length := by rw [hp.length_eq, List.length_map]
  rw [sorted_keys hK hp, hsl] at hrow
  have hb2' : Below W.heap.size W W2 := ((Below.refl _ _).alloc (Nat.le_refl _) _).trans (hb2.mono (by simp))
  have hB2 := hBW.trans (hb2'.mono hBW.size)
  have y1 := (hb2'.block _ (by omega)).trans hz1
  have y2 := (hb2'.block _ hsW).trans hz2
  obtain ⟨gk, ck, rfl, hgk, hgk2⟩ := hrow.form hne
  have hkc : ∀ (j : Nat) (e : Bs × En), L[j]? = some e → W2.cell? ⟨gk, j, none⟩ = some (.string (mk e.1)) := fun j e hj => by
    have := hrow.cells (g := gk) rfl j (encStr e.1) (by rw [List.getElem?_map, List.getElem?_map, hj]; rfl)
    rw [add_zero] at this
    exact this
  have hWs := hb2'.size
  have hgk' : W.heap.size + 1 ≤ gk := by simpa using hgk
  have hgkW : w.heap.size + 1 < gk := by omega
  have hwl : w.heap.size + 1 < W2.heap.size := by omega
  clear hrow hnil hp hb2 q hz1 hz2 f0 hFW hgk hkeys
  go_wp2
  go_loopw [5, 6, 25] (fun _ _ i wr => ∃ (k : Nat) (va : Value) (ns : List Nv), k ≤ L.length ∧ i = .int .i64 k ∧ wr.heap[w.heap.size + 1]? = some (.cells #[va, .int .i64 clk, .int .i64 rm] 28 (0, 0)) ∧ wr.ownsRow W2.heap.size 35 4 va ns.length (flat ns) ∧
      (∀ n ∈ ns, Dat wr n.dv n.nd.data ∧ ∀ g, n.dv.ownBlock = some g → W2.heap.size ≤ g) ∧ ns.map toE = (nds L).take k ∧ Turn (fun i => i = w.heap.size + 1) W2 wr) (fun _ _ i _ => L.length - (intOf i).toNat)
  case atStart => exact ⟨0, .slice none 0 0, [], Nat.zero_le _, rfl, y2, World.ownsRow_nil _ _ _ _, fun n hn => (by cases hn), rfl, Turn.refl _ _⟩
  case round =>
    obtain ⟨k, va, ns, hk, rfl, hT, hown, hdat, hns, htn⟩ := hrel
    have hBr : Below w.heap.size w wr := hB2.trans (htn.below hB2.size (fun i hi => by omega))
    have hFr := h.below hBr
    have t0 : wr.cell? ⟨w.heap.size + 1, 0, none⟩ = some va := by rw [Lib.cell_of_heap hT]; rfl
    have t1 : wr.cell? ⟨w.heap.size + 1, 1, none⟩ = some (.int .i64 clk) := by rw [Lib.cell_of_heap hT]; rfl
    have t2 : wr.cell? ⟨w.heap.size + 1, 2, none⟩ = some (.int .i64 rm) := by rw [Lib.cell_of_heap hT]; rfl
    have tz := Lib.frozen_of_heap hT 0
    have hsz2 := htn.size
    by_cases hkl : k < L.length
    · have k1 : (k : Int) < L.length := by omega
      obtain ⟨e, he⟩ : ∃ e, L[k]? = some e := ⟨_, List.getElem?_eq_getElem hkl⟩
      have hmem : e ∈ L := List.mem_of_getElem? he
      have hfe : fnd L e.1 = some e.2 := h.srt.fnd hmem
      have hkr : wr.cell? ⟨gk, k, none⟩ = some (.string (mk e.1)) := (World.cell?_of_block (a := ⟨gk, k, none⟩) (htn.block gk hgk2 (by omega))).trans (hkc k e he)
      have hel : e.1.length ≤ 1000 := h.keys e hmem
      have hlk := hFr.mp.look e.1 (by unfold maxLen; omega)
      rw [hfe] at hlk
      simp only [Option.map_some, ptrOf] at hlk
      have f0 := hFr.fb.c0
      have hnode := h.nodes e hmem
      have hnr : NodeAt wr e.2 := (hBr.block _ hnode.lt).trans hnode
      have hrd : Rds wr e.2.dv e.2.nd.data := (h.rds e hmem).below hBr
      have hTg : TgC e.2.blk (w.heap.size + 1) e.2.nd.dir e.2.nd.time e.2.dv va wr := ⟨hnr.c0, hnr.c1, hnr.c2, t0⟩
      have hTgd : TgC e.2.blk (w.heap.size + 1) e.2.nd.dir e.2.nd.time e.2.dv va wr.drew := ⟨hTg.c0, hTg.c1, hTg.c2, hTg.cg⟩
      have hnb : e.2.blk < wr.heap.size := hnr.lt
      go_wp2
      refine wp_region_classX [21] (C := TgC e.2.blk (w.heap.size + 1) e.2.nd.dir e.2.nd.time e.2.dv va) (by kernel_rfl) ?_
      (refine wpAnyX_take (i := 0) (v := ?_) hTgd rfl (by kernel_rfl) (by kernel_rfl) (by kernel_rfl) (by kernel_rfl) (fun _ _ _ h => h) (Or.inl ⟨by kernel_rfl, ?_⟩) ?_; rotate_left; (intro w hc; have k0 := hc.c0; have k1 := hc.c1; have k2 := hc.c2; have kg := hc.cg; clear hc; go_simp; try with_reducible rfl))
      (refine wpAnyX_take (i := 1) (v := ?_) hTgd rfl (by kernel_rfl) (by kernel_rfl) (by kernel_rfl) (by kernel_rfl) (fun _ _ _ h => h) (Or.inl ⟨by kernel_rfl, ?_⟩) ?_; rotate_left; (intro w hc; have k0 := hc.c0; have k1 := hc.c1; have k2 := hc.c2; have kg := hc.cg; clear hc; go_simp; try with_reducible rfl))
      (refine wpAnyX_take (i := 2) (v := ?_) hTgd rfl (by kernel_rfl) (by kernel_rfl) (by kernel_rfl) (by kernel_rfl) (fun _ _ _ h => h) (Or.inl ⟨by kernel_rfl, ?_⟩) ?_; rotate_left; (intro w hc; have k0 := hc.c0; have k1 := hc.c1; have k2 := hc.c2; have kg := hc.cg; clear hc; go_simp; try with_reducible rfl))
      (refine wpAnyX_take (i := 4) (v := ?_) hTgd rfl (by kernel_rfl) (by kernel_rfl) (by kernel_rfl) (by kernel_rfl) (fun _ _ _ h => h) (Or.inl ⟨by kernel_rfl, ?_⟩) ?_; rotate_left; (intro w hc; have k0 := hc.c0; have k1 := hc.c1; have k2 := hc.c2; have kg := hc.cg; clear hc; go_simp; try with_reducible rfl))
      (refine wpAnyX_take (i := 5) (v := ?_) hTgd rfl (by kernel_rfl) (by kernel_rfl) (by kernel_rfl) (by kernel_rfl) (fun _ _ _ h => h) (Or.inl ⟨by kernel_rfl, ?_⟩) ?_; rotate_left; (intro w hc; have k0 := hc.c0; have k1 := hc.c1; have k2 := hc.c2; have kg := hc.cg; clear hc; go_simp; try with_reducible rfl))
      (refine wpAnyX_take (i := 6) (v := ?_) hTgd rfl (by kernel_rfl) (by kernel_rfl) (by kernel_rfl) (by kernel_rfl) (fun _ _ _ h => h) (Or.inl ⟨by kernel_rfl, ?_⟩) ?_; rotate_left; (intro w hc; have k0 := hc.c0; have k1 := hc.c1; have k2 := hc.c2; have kg := hc.cg; clear hc; go_simp; try with_reducible rfl))
      (refine wpAnyX_take (i := 7) (v := ?_) hTgd rfl (by kernel_rfl) (by kernel_rfl) (by kernel_rfl) (by kernel_rfl) (fun _ _ _ h => h) (Or.inl ⟨by kernel_rfl, ?_⟩) ?_; rotate_left; (intro w hc; have k0 := hc.c0; have k1 := hc.c1; have k2 := hc.c2; have kg := hc.cg; clear hc; go_simp; try with_reducible rfl))
      (refine wpAnyX_take (i := 8) (v := ?_) hTgd rfl (by kernel_rfl) (by kernel_rfl) (by kernel_rfl) (by kernel_rfl) (fun _ _ _ h => h) (Or.inl ⟨by kernel_rfl, ?_⟩) ?_; rotate_left; (intro w hc; have k0 := hc.c0; have k1 := hc.c1; have k2 := hc.c2; have kg := hc.cg; clear hc; go_simp; try with_reducible rfl))
      (refine wpAnyX_take (i := 9) (v := ?_) hTgd rfl (by kernel_rfl) (by kernel_rfl) (by kernel_rfl) (by kernel_rfl) (fun _ _ _ h => h) (Or.inl ⟨by kernel_rfl, ?_⟩) ?_; rotate_left; (intro w hc; have k0 := hc.c0; have k1 := hc.c1; have k2 := hc.c2; have kg := hc.cg; clear hc; go_simp; try with_reducible rfl))
      (refine wpAnyX_take (i := 10) (v := ?_) hTgd rfl (by kernel_rfl) (by kernel_rfl) (by kernel_rfl) (by kernel_rfl) (fun _ _ _ h => h) (Or.inl ⟨by kernel_rfl, ?_⟩) ?_; rotate_left; (intro w hc; have k0 := hc.c0; have k1 := hc.c1; have k2 := hc.c2; have kg := hc.cg; clear hc; go_simp; try with_reducible rfl))
      (refine wpAnyX_take (i := 11) (v := ?_) hTgd rfl (by kernel_rfl) (by kernel_rfl) (by kernel_rfl) (by kernel_rfl) (fun _ _ _ h => h) (Or.inl ⟨by kernel_rfl, ?_⟩) ?_; rotate_left; (intro w hc; have k0 := hc.c0; have k1 := hc.c1; have k2 := hc.c2; have kg := hc.cg; clear hc; go_simp; try with_reducible rfl))
      (refine wpAnyX_take (i := 12) (v := ?_) hTgd rfl (by kernel_rfl) (by kernel_rfl) (by kernel_rfl) (by kernel_rfl) (fun _ _ _ h => h) (Or.inl ⟨by kernel_rfl, ?_⟩) ?_; rotate_left; (intro w hc; have k0 := hc.c0; have k1 := hc.c1; have k2 := hc.c2; have kg := hc.cg; clear hc; go_simp; try with_reducible rfl))
      (refine wpAnyX_take (i := 13) (v := ?_) hTgd rfl (by kernel_rfl) (by kernel_rfl) (by kernel_rfl) (by kernel_rfl) (fun _ _ _ h => h) (Or.inl ⟨by kernel_rfl, ?_⟩) ?_; rotate_left; (intro w hc; have k0 := hc.c0; have k1 := hc.c1; have k2 := hc.c2; have kg := hc.cg; clear hc; go_simp; try with_reducible rfl))
      (refine wpAnyX_take (i := 14) (v := ?_) hTgd rfl (by kernel_rfl) (by kernel_rfl) (by kernel_rfl) (by kernel_rfl) (fun _ _ _ h => h) (Or.inl ⟨by kernel_rfl, ?_⟩) ?_; rotate_left; (intro w hc; have k0 := hc.c0; have k1 := hc.c1; have k2 := hc.c2; have kg := hc.cg; clear hc; go_simp; try with_reducible rfl))
      (refine wpAnyX_take (i := 15) (v := ?_) hTgd rfl (by kernel_rfl) (by kernel_rfl) (by kernel_rfl) (by kernel_rfl) (fun _ _ _ h => h) (Or.inl ⟨by kernel_rfl, ?_⟩) ?_; rotate_left; (intro w hc; have k0 := hc.c0; have k1 := hc.c1; have k2 := hc.c2; have kg := hc.cg; clear hc; go_simp; try with_reducible rfl))
      refine wpAnyX_one (i := 3) (by kernel_rfl) (wpOp_wanted rfl (by rfl) ?_)
      go_simp
      refine (clone_any (mk e.1) _ (by rw [mk_size]; omega)).mono ?_
      rintro r w4 ⟨rfl, hb4⟩
      dsimp only
      have hb4' : Below wr.heap.size wr w4 := ⟨hb4.os, hb4.tape, hb4.output, hb4.size, hb4.block⟩
      have hTg4 := hTg.below hb4' hnb (by omega)
      have hrd4 := hrd.below hb4'
      refine ⟨hTg4, ?_⟩
      refine wpAnyX_one (i := 16) (by kernel_rfl) (wpOp_wanted rfl (by rfl) ?_)
      go_simp
      refine (own_any e.2.dv e.2.nd.data _ hrd4 (hsz _ hmem)).mono ?_
      rintro r w5 ⟨v', rfl, hd5, hg5, hb5⟩
      obtain ⟨a5, cap5, hv5⟩ := hd5.len
      subst hv5
      dsimp only
      have hs4 := hb4'.size
      have hs5 := hb5.size
      have hTg5 := hTg4.below hb5 (by omega) (by omega)
      refine ⟨hTg5, ?_⟩
      refine wpAnyX_one (i := 17) (by kernel_rfl) (wpOp_wanted rfl (by rfl) ?_)
      go_simp
      refine wpAnyX_one (i := 18) (by kernel_rfl) (wpOp_wanted rfl (by rfl) ?_)
      have hb6 : Below w5.heap.size w5 (w5.alloc (.cells #[.string (mk e.1), .bool e.2.nd.dir, .int .i64 e.2.nd.time, .slice a5 e.2.nd.data.length cap5] 35)) := (Below.refl _ _).alloc (Nat.le_refl _) _
      have hTg6 := hTg5.below hb6 (by omega) (by omega)
      go_simp
      obtain ⟨inf, hi, hz0, hz1, hz2⟩ := info_parts info55
      have hB5 : Below wr.heap.size wr w5 := hb4'.trans (hb5.mono hs4)
      have hB6 : Below wr.heap.size wr (w5.alloc (.cells #[.string (mk e.1), .bool e.2.nd.dir, .int .i64 e.2.nd.time, .slice a5 e.2.nd.data.length cap5] 35)) := hB5.trans (hb6.mono hB5.size)
      have hown6 : (w5.alloc (.cells #[.string (mk e.1), .bool e.2.nd.dir, .int .i64 e.2.nd.time, .slice a5 e.2.nd.data.length cap5] 35)).ownsRow W2.heap.size 35 4 va ns.length (flat ns) := own_kept hown hB6
      have hnl : ns.length = k := by have := congrArg List.length hns; rw [List.length_map, List.length_take, nds_length] at this; omega
      refine wpAnyX_one (i := 19) (by kernel_rfl) (wpOp_wanted rfl (by rfl) ?_)
      refine wp_append_lies _ _ _ 26 rfl W2.heap.size 35 inf _ 4 56 Tryz.underlying26 hi hz0 hz1 hz2 rfl (by decide) va ns.length (flat ns) rfl hown6 ⟨w5.heap.size, 0, none⟩ 1 1 (cellsN ⟨e.1, .slice a5 e.2.nd.data.length cap5, e.2.nd⟩) rfl rfl (news_cells w5 _) (news_one _ _ _ _) (by decide) (by unfold maxLen; omega) (by omega) (by simp; omega) _ rfl ?_
      intro g9 c9 w9 hown9 hgr9 hat9 hlt9
      have hva : ∀ b, b < W2.heap.size → some b ≠ va.ownBlock := by
        intro b hb e1
        rcases hown.2 with ⟨rfl, _⟩ | ⟨g, cap, cur, rfl, hg, _⟩
        · cases e1
        · have := Option.some.inj e1
          simp only at this
          omega
      have hs6 : wr.heap.size ≤ (w5.alloc (.cells #[.string (mk e.1), .bool e.2.nd.dir, .int .i64 e.2.nd.time, .slice a5 e.2.nd.data.length cap5] 35)).heap.size := hB6.size
      have hk9 : ∀ b, b < W2.heap.size → w9.heap[b]? = wr.heap[b]? := fun b hb => (hgr9.block b (by omega) (hva b hb)).trans (hB6.block b (by omega))
      have hnW : e.2.blk < W2.heap.size := Nat.lt_of_lt_of_le hnode.lt hB2.size
      have hTg9 : TgC e.2.blk (w.heap.size + 1) e.2.nd.dir e.2.nd.time e.2.dv va w9 :=
        ⟨(World.cell?_of_block (a := ⟨e.2.blk, 0, none⟩) (hk9 _ hnW)).trans hTg.c0, (World.cell?_of_block (a := ⟨e.2.blk, 1, none⟩) (hk9 _ hnW)).trans hTg.c1, (World.cell?_of_block (a := ⟨e.2.blk, 2, none⟩) (hk9 _ hnW)).trans hTg.c2, (World.cell?_of_block (a := ⟨w.heap.size + 1, 0, none⟩) (hk9 _ hwl)).trans hTg.cg⟩
      have hT9 := (hk9 _ hwl).trans hT
      have tz9 := Lib.frozen_of_heap hT9 0
      have tg9 : w9.cell? ⟨w.heap.size + 1, 0, none⟩ = some va := hTg9.cg
      refine ⟨fun _ => hTg9, ?_⟩
      refine wpAnyX_one (i := 20) (by kernel_rfl) (wpOp_wanted rfl (by rfl) ?_)
      go_simp
      refine wpAnyX_one (i := 21) (by kernel_rfl) (wpOp_wanted rfl (by rfl) ?_)
      go_simp
      refine wpAnyX_done (by kernel_rfl) ?_ _
      go_wp2
      have hset : ∀ b, b ≠ w.heap.size + 1 → (w9.setCell ⟨w.heap.size + 1, 0, none⟩ (.slice (some ⟨g9, 0, none⟩) (k + 1) c9)).heap[b]? = w9.heap[b]? := fun b hb => Below.heap_setCell w9 ⟨w.heap.size + 1, 0, none⟩ _ b (by simpa using hb)
      have hdk : ∀ v bs, Dat (w5.alloc (.cells #[.string (mk e.1), .bool e.2.nd.dir, .int .i64 e.2.nd.time, .slice a5 e.2.nd.data.length cap5] 35)) v bs → (∀ g, v.ownBlock = some g → W2.heap.size ≤ g) → Dat (w9.setCell ⟨w.heap.size + 1, 0, none⟩ (.slice (some ⟨g9, 0, none⟩) (k + 1) c9)) v bs := fun v bs hd hg => (dat_grown hd hown6 hgr9).kept fun g hgb => hset g (by have := hg g hgb; omega)
      have hnew : ∀ g, (Value.slice a5 e.2.nd.data.length cap5).ownBlock = some g → W2.heap.size ≤ g := fun g hg => by have := hg5 g hg; omega
      refine ⟨⟨k + 1, .slice (some ⟨g9, 0, none⟩) (k + 1) c9, ns ++ [⟨e.1, .slice a5 e.2.nd.data.length cap5, e.2.nd⟩], by omega, by simp, set_row hT9 0 _, ?_, fun n hn => ?_, ?_, ?_⟩, by simp [intOf]; omega⟩
      · have ho := hown9
        rw [hnl] at ho
        have e1 : (ns ++ [(⟨e.1, .slice a5 e.2.nd.data.length cap5, e.2.nd⟩ : Nv)]).length = k + 1 := by rw [List.length_append, hnl]; rfl
        have e2 : flat (ns ++ [(⟨e.1, .slice a5 e.2.nd.data.length cap5, e.2.nd⟩ : Nv)]) = flat ns ++ cellsN ⟨e.1, .slice a5 e.2.nd.data.length cap5, e.2.nd⟩ := by unfold flat; rw [List.flatMap_append]; simp
        rw [e1, e2]
        refine ⟨ho.1, ?_⟩
        rcases ho.2 with ⟨e3, _⟩ | ⟨g, cap, cur, e3, hbg, hg, r⟩
        · cases e3
        · cases e3
          exact .inr ⟨g9, c9, cur, rfl, hbg, (hset g9 (by omega)).trans hg, r⟩
      · rcases List.mem_append.1 hn with hn | hn
        · exact ⟨hdk _ _ ((hdat n hn).1.kept fun g hgb => hB6.block g ((hdat n hn).1.lt g hgb)) (hdat n hn).2, (hdat n hn).2⟩
        · rw [List.mem_singleton.1 hn]
          exact ⟨hdk _ _ (hd5.kept fun g hgb => hb6.block g (hd5.lt g hgb)) hnew, hnew⟩
      · rw [List.map_append, hns, List.take_add_one]
        congr 1
        have : (nds L)[k]? = some (e.1, e.2.nd) := by unfold nds; rw [List.getElem?_map, he]; rfl
        rw [this]
        rfl
      · refine ⟨hgr9.os.trans (hB6.os.trans htn.os), hgr9.tape.trans (hB6.tape.trans htn.tape), hgr9.output.trans (hB6.output.trans htn.output), ?_, fun b hb hn => ?_⟩
        · show W2.heap.size ≤ (w9.setCell _ _).heap.size
          have h1 := hgr9.size
          have h2 := ((Below.refl 0 w9).setCell (p := ⟨w.heap.size + 1, 0, none⟩) (Nat.zero_le _) (.slice (some ⟨g9, 0, none⟩) (k + 1) c9)).size
          omega
        · exact (hset b hn).trans ((hk9 b hb).trans (htn.block b hb hn))
    · obtain rfl : k = L.length := by omega
      rw [← nds_length, List.take_length] at hns
      have hnl : ns.length = L.length := by have := congrArg List.length hns; rwa [List.length_map, nds_length] at this
      have k1 : ¬ (L.length : Int) < L.length := by omega
      rw [hnl] at hown
      obtain ⟨gv, cv, rfl, hgv, hgv2⟩ := hown.form hne
      have y1r := (htn.block w.heap.size (by omega) (by omega)).trans y1
      have s0 : wr.cell? ⟨w.heap.size, 0, none⟩ = some (.slice none 0 0) := by rw [Lib.cell_of_heap y1r]; rfl
      have s1 : wr.cell? ⟨w.heap.size, 1, none⟩ = some (.int .i64 0) := by rw [Lib.cell_of_heap y1r]; rfl
      have s2 : wr.cell? ⟨w.heap.size, 2, none⟩ = some (.int .i64 0) := by rw [Lib.cell_of_heap y1r]; rfl
      have g0 := Lib.frozen_of_heap y1r 0
      have g1 := Lib.frozen_of_heap y1r 1
      have g2 := Lib.frozen_of_heap y1r 2
      obtain ⟨cur, hgc, hcv, hcm, hcs, hct⟩ : ∃ cur, wr.heap[gv]? = some (.cells cur 35 (0, 0)) ∧ L.length ≤ cv ∧ cv ≤ maxLen ∧ cur.size = cv * 4 ∧ cur.toList.take (L.length * 4) = flat ns := by
        rcases hown.2 with ⟨e3, _⟩ | ⟨g, cap, cur, e3, hbg, hg, r1, r2, r3, r4⟩
        · cases e3
        · cases e3; exact ⟨cur, hg, r1, r2, r3, r4⟩
      go_wp2_with fail
      refine (cutN_some gv L.length cv hcv hcm _).mono ?_
      rintro r w4 ⟨rfl, rfl⟩
      go_wp2
      have y3 := (Below.heap_setCell w4 ⟨w.heap.size + 1, 0, none⟩ (.slice (some ⟨gv, 0, none⟩) L.length L.length) w.heap.size (by simp)).trans y1r
      refine bodyPost_ret (res15 _ _ _ _ _ _ rfl (set_row (set_row (set_row y3 0 _) 1 _) 2 _)) rfl ?_
      obtain ⟨wz, hwz⟩ : ∃ wz, wz = (((w4.setCell ⟨w.heap.size + 1, 0, none⟩ (.slice (some ⟨gv, 0, none⟩) L.length L.length)).setCell ⟨w.heap.size, 0, none⟩ (.slice (some ⟨gv, 0, none⟩) L.length L.length)).setCell ⟨w.heap.size, 1, none⟩ (.int .i64 clk)).setCell ⟨w.heap.size, 2, none⟩ (.int .i64 rm) := ⟨_, rfl⟩
      have hBz : Below w.heap.size w wz := by
        rw [hwz]
        exact (((hBr.setCell (p := ⟨w.heap.size + 1, 0, none⟩) (Nat.le_succ _) _).setCell (p := ⟨w.heap.size, 0, none⟩) (Nat.le_refl _) _).setCell (p := ⟨w.heap.size, 1, none⟩) (Nat.le_refl _) _).setCell (p := ⟨w.heap.size, 2, none⟩) (Nat.le_refl _) _
      have hkz : ∀ b, W2.heap.size ≤ b → wz.heap[b]? = w4.heap[b]? := fun b hb => by
        rw [hwz]
        exact (Below.heap_setCell _ ⟨w.heap.size, 2, none⟩ _ b (by simp; omega)).trans ((Below.heap_setCell _ ⟨w.heap.size, 1, none⟩ _ b (by simp; omega)).trans ((Below.heap_setCell _ ⟨w.heap.size, 0, none⟩ _ b (by simp; omega)).trans (Below.heap_setCell _ ⟨w.heap.size + 1, 0, none⟩ _ b (by simp; omega))))
      rw [← hwz]
      refine ⟨⟨_, ns, rfl, ⟨.inr ⟨gv, L.length, cur, by rw [hnl], by omega, (hkz gv hgv).trans hgc, by omega, by omega, by rw [hnl]; exact hct⟩, fun n hn => (hdat n hn).1.kept fun g hg => hkz g ((hdat n hn).2 g hg), fun n hn g hg => by have := (hdat n hn).2 g hg; omega⟩, hns⟩, hBz⟩
/-- Tree -/
theorem Tree_any (A : Nat) (T : Tr) (clk rm : Int) (S : Nat → Prop) (w : World) (h : IsFs w S A T clk rm) :
    Calls Tryz.prog 18 #[.pointer (some ⟨A, 0, none⟩)] w fun r w' => (∃ v ns, r = .returned (.agg #[v, .int .i64 clk, .int .i64 rm]) ∧ NsAt w' w.heap.size v ns ∧ ns.map toE = T) ∧ Below w.heap.size w w' := by
  by_cases hT : T = []
  · subst hT
    exact (Tree_none A clk rm S w h).mono fun r w' ⟨hr, hb⟩ => ⟨⟨_, [], hr, NsAt.nil _ _, rfl⟩, hb⟩
  · obtain ⟨M, L, hF, hO, rfl⟩ := h.mem
    have hl : 0 < L.length := by
      rw [← nds_length]
      exact List.length_pos_iff.2 hT
    have hll : L.length ≤ 1000 := by have := h.len; rwa [nds_length] at this
    have hwn : weight (nds L) ≤ 1048576 := by have h1 := h.wt; have h2 := h.rm; omega
    exact Tree_some A M L _ clk rm w hF hl hll fun e he => Nat.le_trans (data_le hwn e he) (by omega)
end Go.Proofs.YtbfchadcpokjoaaGreatDoor
