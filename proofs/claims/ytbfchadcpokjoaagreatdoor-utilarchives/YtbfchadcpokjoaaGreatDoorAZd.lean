/- The trees of the law UtilCopies. The law UtilCopies. -/
import Derived.Test.YtbfchadcpokjoaaGreatDoorAZc
import Derived.Test.YtbfchadcpokjoaaGreatDoorAGoodOps
import Derived.Test.YtbfchadcpokjoaaGreatDoorAZz
namespace Go.Proofs.YtbfchadcpokjoaaGreatDoor
open Go.RowKit Go.Maps

def treeD (d : Bs) : Tr := [([97], ⟨false, 1, d⟩), ([98], ⟨false, 2, [50, 50]⟩), ([100], ⟨true, 3, []⟩)]
def qOf (b : Bool) : Bs := if b then [100] else [101]
def atOf (b : Bool) : Bs := if b then [100, 47, 97] else [101]
def cpT (b : Bool) (d : Bs) : Tr := if b then [([97], ⟨false, 1, d⟩), ([98], ⟨false, 2, [50, 50]⟩), ([100], ⟨true, 3, []⟩), ([100, 47, 97], ⟨false, 4, d⟩)] else [([97], ⟨false, 1, d⟩), ([98], ⟨false, 2, [50, 50]⟩), ([100], ⟨true, 3, []⟩), ([101], ⟨false, 4, d⟩)]
def mvT (b : Bool) (d : Bs) : Tr := if b then [([98], ⟨false, 2, [50, 50]⟩), ([100], ⟨true, 3, []⟩), ([100, 47, 97], ⟨false, 1, d⟩)] else [([98], ⟨false, 2, [50, 50]⟩), ([100], ⟨true, 3, []⟩), ([101], ⟨false, 1, d⟩)]
theorem place_at (b : Bool) (d : Bs) : placeQ (treeD d) (qOf b) = atOf b := by cases b <;> rfl
theorem read_a (d : Bs) : readR (treeD d) (clean [97]) = .inr d := rfl
theorem wt_cp (b : Bool) (d : Bs) : weight (cpT b d) = 2 * d.length + 6 := by
  cases b <;> simp [weight, cpT, sumOf, Nd.wt] <;> omega
theorem wt_mv (b : Bool) (d : Bs) : weight (mvT b d) = d.length + 5 := by
  cases b <;> simp [weight, mvT, sumOf, Nd.wt] <;> omega
theorem wt_d (d : Bs) : weight (treeD d) = d.length + 5 := by
  simp [weight, treeD, sumOf, Nd.wt]; omega
theorem look_at (b : Bool) (d : Bs) : lookN (treeD d) (clean (atOf b)) = .non := by cases b <;> rfl
theorem put_at' (b : Bool) (d : Bs) (t : Int) : put (treeD d) (clean (atOf b)) ⟨false, t, d⟩ = if b then [([97], ⟨false, 1, d⟩), ([98], ⟨false, 2, [50, 50]⟩), ([100], ⟨true, 3, []⟩), ([100, 47, 97], ⟨false, t, d⟩)] else [([97], ⟨false, 1, d⟩), ([98], ⟨false, 2, [50, 50]⟩), ([100], ⟨true, 3, []⟩), ([101], ⟨false, t, d⟩)] := by cases b <;> rfl
theorem write_at (b : Bool) (d : Bs) (hd : d.length ≤ 20000) : writeR (treeD d) 3 60000 (clean (atOf b)) d false = (0, cpT b d, 4) := by
  unfold writeR
  rw [look_at]
  have hnl : ¬ 65536 < d.length := by omega
  simp only [fileN, if_neg hnl]
  unfold putR
  rw [put_at' b d 0]
  have hw : weight (if b then [([97], ⟨false, 1, d⟩), ([98], ⟨false, 2, [50, 50]⟩), ([100], ⟨true, 3, []⟩), ([100, 47, 97], ⟨false, 0, d⟩)] else [([97], ⟨false, 1, d⟩), ([98], ⟨false, 2, [50, 50]⟩), ([100], ⟨true, 3, []⟩), ([101], ⟨false, 0, d⟩)] : Tr) = 2 * d.length + 6 := by
    cases b <;> simp [weight, sumOf, Nd.wt] <;> omega
  rw [if_pos ⟨by cases b <;> simp, by rw [hw]; omega⟩]
  simp only
  rw [put_at' b d (3 + 1)]
  rfl
theorem rename_at (b : Bool) (d : Bs) : renameR (treeD d) 3 (clean [97]) (clean (atOf b)) = (0, mvT b d, 4) := by cases b <;> rfl
theorem reads (b : Bool) (d : Bs) : readR (cpT b d) (clean (atOf b)) = .inr d ∧ readR (cpT b d) (clean [97]) = .inr d ∧ readR (mvT b d) (clean (atOf b)) = .inr d := by cases b <;> exact ⟨rfl, rfl, rfl⟩
theorem stats (b : Bool) (d : Bs) : statR (mvT b d) (clean [97]) = (0, 0, 0) ∧ statR (mvT b d) (clean (atOf b)) = (1, 1, (d.length : Int)) ∧ statR (cpT b d) (clean (atOf b)) = (1, 4, (d.length : Int)) := by cases b <;> exact ⟨rfl, rfl, rfl⟩
theorem gd_d (d : Bs) (hd : d.length ≤ 20000) : Gd (treeD d) 3 := by
  refine ⟨?_, ?_, ?_, ?_, ?_⟩
  · unfold Srt treeD
    simp only [List.pairwise_cons, List.mem_cons, List.not_mem_nil, or_false, forall_eq_or_imp, forall_eq, List.Pairwise.nil, and_true, false_implies, implies_true]
    decide
  · intro e he
    simp only [treeD, List.mem_cons, List.not_mem_nil, or_false] at he
    rcases he with rfl | rfl | rfl <;> exact ⟨by dsimp only; decide +kernel, by simp⟩
  · intro e he
    simp only [treeD, List.mem_cons, List.not_mem_nil, or_false] at he
    rcases he with rfl | rfl | rfl <;> simp
  · intro e he
    simp only [treeD, List.mem_cons, List.not_mem_nil, or_false] at he
    rcases he with rfl | rfl | rfl <;> simp <;> omega
  · intro e he
    simp only [treeD, List.mem_cons, List.not_mem_nil, or_false] at he
    rcases he with rfl | rfl | rfl <;> exact .inl (by dsimp only; decide +kernel)
theorem gd_cp (b : Bool) (d : Bs) (hd : d.length ≤ 20000) : Gd (cpT b d) 4 := by
  have h := (write_ok (rm := 60000) (gd_d d hd) (by decide) (clean (atOf b)) d false).gd
  rw [write_at b d hd] at h
  exact h
theorem gd_mv (b : Bool) (d : Bs) (hd : d.length ≤ 20000) : Gd (mvT b d) 4 := by
  have h := (rename_ok (gd_d d hd) (clean [97]) (clean (atOf b))).gd
  rw [rename_at b d] at h
  exact h
end Go.Proofs.YtbfchadcpokjoaaGreatDoor
namespace Go.Proofs.YtbfchadcpokjoaaGreatDoor
open Go.RowKit Go.Maps

def rowD (b : Nat) (v0 : Value) : Array Value := #[.string { data := #[97] }, .bool false, .int .i64 1, v0, .string { data := #[98] }, .bool false, .int .i64 2, .slice (some ⟨b + 1, 0, none⟩) 2 2, .string { data := #[100] }, .bool true, .int .i64 3, .slice none 0 0]
set_option maxRecDepth 100000 in
set_option maxHeartbeats 4000000 in
theorem tree_cells (w : World) : Calls Tryz.prog 10 #[] w fun r w' => ∃ g b, r = .returned (.agg #[.slice (some ⟨g, 0, none⟩) 3 3, .int .i64 3, .int .i64 60000]) ∧ w'.heap[g]? = some (.cells (rowD b (.slice (some ⟨b, 0, none⟩) 1 1)) 35 (0, 0)) ∧ w'.heap[b + 1]? = some (.cells #[.int .u8 50, .int .u8 50] 5 (2, 3)) ∧ w.heap.size ≤ b ∧ b + 1 < g ∧ Below w.heap.size w w' := by
  have hcv := Lib.run_convert_bytes_const (P := Tryz.prog) (w.alloc (.cells #[.slice none 0 0, .int .i64 0, .int .i64 0] 28)) 33 5 #[.int .u8 49] 1 1 Tryz.underlying33 Tryz.underlying5
  have hcv2 := Lib.run_convert_bytes_const (P := Tryz.prog) ((w.alloc (.cells #[.slice none 0 0, .int .i64 0, .int .i64 0] 28)).alloc (.cells #[.int .u8 49] 5 (1, 2))) 33 5 #[.int .u8 50, .int .u8 50] 2 2 Tryz.underlying33 Tryz.underlying5
  simp only [size_alloc'] at hcv hcv2
  go_enter Tryz.func10, Tryz.ntmps10
  go_wp2
  obtain ⟨a1, a2, a3, a4⟩ := four_alloc w (.cells #[.slice (some ⟨w.heap.size + 1 + 1 + 1, 0, none⟩) 3 3, .int .i64 3, .int .i64 60000] 28) (.cells #[.int .u8 49] 5 (1, 2)) (.cells #[.int .u8 50, .int .u8 50] 5 (2, 3)) (.cells #[.string { data := #[97] }, .bool false, .int .i64 1, .slice (some ⟨w.heap.size + 1, 0, none⟩) 1 1, .string { data := #[98] }, .bool false, .int .i64 2, .slice (some ⟨w.heap.size + 1 + 1, 0, none⟩) 2 2, .string { data := #[100] }, .bool true, .int .i64 3, .slice none 0 0] 35)
  refine bodyPost_ret (res10 _ _ _ _ _ _ rfl a1) rfl ?_
  exact ⟨_, w.heap.size + 1, rfl, a4, a3, by omega, by omega, ((((Below.refl _ _).alloc (Nat.le_refl _) _).alloc (by simp) _).alloc (by simp; omega) _).alloc (by simp; omega) _⟩
def tnsD (b : Nat) (v0 : Value) (d : Bs) : List Nv := [⟨[97], v0, ⟨false, 1, d⟩⟩, ⟨[98], .slice (some ⟨b + 1, 0, none⟩) 2 2, ⟨false, 2, [50, 50]⟩⟩, ⟨[100], .slice none 0 0, ⟨true, 3, []⟩⟩]
theorem tnsD_nodes {W : World} {b g : Nat} {v0 : Value} {d : Bs} (hd : Rds W v0 d) (hE : W.heap[b + 1]? = some (.cells #[.int .u8 50, .int .u8 50] 5 (2, 3))) (hN : W.heap[g]? = some (.cells (rowD b v0) 35 (0, 0))) : Nodes W (.slice (some ⟨g, 0, none⟩) 3 3) (tnsD b v0 d) := by
  refine .inr ⟨g, 0, 3, rfl, Nat.le_refl _, ⟨lt_of_block hN, fun i n hi => ?_, fun i n hi => ?_, fun i n hi => ?_, fun i n hi => ?_⟩, fun n hn => ?_⟩
  · rcases i with _ | _ | _ | i
    · cases hi; rw [Lib.cell_of_heap hN]; rfl
    · cases hi; rw [Lib.cell_of_heap hN]; rfl
    · cases hi; rw [Lib.cell_of_heap hN]; rfl
    · simp [tnsD] at hi
  · rcases i with _ | _ | _ | i
    · cases hi; rw [Lib.cell_of_heap hN]; rfl
    · cases hi; rw [Lib.cell_of_heap hN]; rfl
    · cases hi; rw [Lib.cell_of_heap hN]; rfl
    · simp [tnsD] at hi
  · rcases i with _ | _ | _ | i
    · cases hi; rw [Lib.cell_of_heap hN]; rfl
    · cases hi; rw [Lib.cell_of_heap hN]; rfl
    · cases hi; rw [Lib.cell_of_heap hN]; rfl
    · simp [tnsD] at hi
  · rcases i with _ | _ | _ | i
    · cases hi; rw [Lib.cell_of_heap hN]; rfl
    · cases hi; rw [Lib.cell_of_heap hN]; rfl
    · cases hi; rw [Lib.cell_of_heap hN]; rfl
    · simp [tnsD] at hi
  · simp only [tnsD, List.mem_cons, List.not_mem_nil, or_false] at hn
    rcases hn with rfl | rfl | rfl
    · exact hd
    · refine .inr ⟨⟨b + 1, 0, none⟩, 2, rfl, fun _ => lt_of_block hE, fun j u hj => ?_⟩
      rw [add_zero]
      rcases j with _ | _ | j
      · cases hj; rw [Lib.cell_of_heap hE]; rfl
      · cases hj; rw [Lib.cell_of_heap hE]; rfl
      · simp [Lib.byteCells] at hj
    · exact .inl ⟨rfl, rfl⟩
theorem tnsD_map (b : Nat) (v0 : Value) (d : Bs) : (tnsD b v0 d).map toE = treeD d := rfl
theorem tnsD_new (b : Nat) (v0 : Value) (d : Bs) (hd : d.length ≤ 20000) : newR (tnsD b v0 d) 3 60000 = .inr (treeD d) := by
  have h := new_of_gd (ns := tnsD b v0 d) (clk := 3) (rm := 60000) (gd_d d hd) (by decide) (by rw [tnsD_map, wt_d]; omega) (by simp [tnsD])
  rw [tnsD_map] at h
  exact h
theorem tnsD_len (b : Nat) (v0 : Value) (d : Bs) : ∀ m ∈ tnsD b v0 d, m.path.length ≤ 400000 := by
  intro m hm
  simp only [tnsD, List.mem_cons, List.not_mem_nil, or_false] at hm
  rcases hm with rfl | rfl | rfl <;> simp
theorem cf48 (xs : Array Value) (W : World) : (callFunc 48 xs).run Tryz.prog W = .ok (.enter 48 xs) W := by kernel_rfl
theorem cf49 (xs : Array Value) (W : World) : (callFunc 49 xs).run Tryz.prog W = .ok (.enter 49 xs) W := by kernel_rfl
/-- a utility that prints nothing and turns the tree -/
theorem turned {W w' : World} {G C n0 : Nat} {T' : Tr} {clk' rm : Int} {fv y iv : Value} {st : Int} {Q : Int → Bs → Tr → Int → Prop} (hC : CallAt W C fv y iv (.slice none 0 0)) (hf : FsOk (fun i => n0 ≤ i ∧ i < C) G rm T' clk' W w') (hbC : n0 ≤ C) (hQ : Q st [] T' clk') :
    ∃ st' a n cap, Ending.returned (.int .i64 st) = .returned (.int .i64 st') ∧ n ≤ cap ∧ w'.cell? ⟨C, 3, none⟩ = some (.slice a n cap) ∧ UtOk n0 W G rm Q a n st' w' := by
  obtain ⟨S', hf, ht, _⟩ := hf
  have hl := lt_of_block hC
  have h3 : w'.cell? ⟨C, 3, none⟩ = some (.slice none 0 0) := by
    rw [Lib.cell_of_heap ((ht.block C hl (fun h => by have := h.2; omega)).trans hC)]; rfl
  exact ⟨st, none, 0, 0, rfl, Nat.le_refl _, h3, [], T', clk', S', .inl ⟨rfl, rfl⟩, hf, ht.below (by omega) (fun i hi => hi.1), hQ⟩
/-- what the law's run tells of a copy or a move -/
def CpV (w : World) (T' : Tr) (r : Ending) (w' : World) : Prop := ∃ s ta tn tc ns', r = .returned (.tuple #[.string s, .int .i64 0, .bool true, .agg #[.slice ta tn tc, .int .i64 4, .int .i64 60000]]) ∧ Nodes w' (.slice ta tn tc) ns' ∧ ns'.map toE = T' ∧ Below w.heap.size w w'
theorem treeD_dat (d : Bs) (hd : d.length ≤ 20000) : ∀ e ∈ treeD d, e.2.data.length ≤ 1000000 := fun e he => by
  have := ((gd_d d hd).dat e he).2; omega
theorem at_len (b : Bool) : (atOf b).length ≤ 100000 := by cases b <;> simp [atOf]
theorem lrun_cp (B bb : Nat) (E : Addr) (b : Bool) (v v0 av : Value) (d : Bs) (w : World) (hd : d.length ≤ 20000) (h : Nodes w v (tnsD bb v0 d)) (hG : Glo B w E) (hB : B ≤ w.heap.size) (hv : Txs w av [[99, 112], [97], qOf b]) :
    Calls Tryz.prog 9 #[.agg #[v, .int .i64 3, .int .i64 60000], av, .string (mk [])] w (CpV w (cpT b d)) := by
  refine (lrun_any B E v (tnsD bb v0 d) 3 60000 (treeD d) w h hG hB (tnsD_len bb v0 d) (tnsD_new bb v0 d hd) av [99, 112] [[97], qOf b] 48 rfl cf48 (by simp) hv [] (fun s _ T' ck => s = 0 ∧ T' = cpT b d ∧ ck = 4) (fun V W G C n0 y iv hwb hb hf hG2 hC hVC hVb hcl hyV => ?_)).mono ?_
  · refine (cp_ok B G C E (treeD d) (cpT b d) 3 4 60000 (qOf b) d _ y iv _ W (by cases b <;> simp [qOf]) hcl hf hG2 (by have := lt_of_block hcl; omega) (fun i hi => by have := hi.1; omega) (by decide) (hyV.below hVb (Nat.le_refl _)) (treeD_dat d hd) (read_a d) (by omega) (by rw [place_at]; exact at_len b) (by rw [place_at]; exact write_at b d hd)).mono ?_
    rintro r w' ⟨rfl, hP⟩
    exact turned hcl hP hC ⟨rfl, rfl, rfl⟩
  · rintro r w' ⟨ob, st', tv, clk', ns', rfl, hns, ⟨rfl, hT, rfl⟩, hb⟩
    obtain ⟨ta, tc, rfl⟩ := hns.len
    exact ⟨_, _, _, _, ns', rfl, hns, hT, hb⟩
theorem lrun_mv (B bb : Nat) (E : Addr) (b : Bool) (v v0 av : Value) (d : Bs) (w : World) (hd : d.length ≤ 20000) (h : Nodes w v (tnsD bb v0 d)) (hG : Glo B w E) (hB : B ≤ w.heap.size) (hv : Txs w av [[109, 118], [97], qOf b]) :
    Calls Tryz.prog 9 #[.agg #[v, .int .i64 3, .int .i64 60000], av, .string (mk [])] w (CpV w (mvT b d)) := by
  refine (lrun_any B E v (tnsD bb v0 d) 3 60000 (treeD d) w h hG hB (tnsD_len bb v0 d) (tnsD_new bb v0 d hd) av [109, 118] [[97], qOf b] 49 rfl cf49 (by simp) hv [] (fun s _ T' ck => s = 0 ∧ T' = mvT b d ∧ ck = 4) (fun V W G C n0 y iv hwb hb hf hG2 hC hVC hVb hcl hyV => ?_)).mono ?_
  · refine (mv_ok B G C E (treeD d) (mvT b d) 3 4 60000 (qOf b) _ y iv _ W (by cases b <;> simp [qOf]) hcl hf hG2 (by have := lt_of_block hcl; omega) (fun i hi => by have := hi.1; omega) (by decide) (hyV.below hVb (Nat.le_refl _)) (by rw [place_at]; exact at_len b) (by rw [place_at]; exact rename_at b d)).mono ?_
    rintro r w' ⟨rfl, hP⟩
    exact turned hcl hP hC ⟨rfl, rfl, rfl⟩
  · rintro r w' ⟨ob, st', tv, clk', ns', rfl, hns, ⟨rfl, hT, rfl⟩, hb⟩
    obtain ⟨ta, tc, rfl⟩ := hns.len
    exact ⟨_, _, _, _, ns', rfl, hns, hT, hb⟩
/-- New of a tree that is right -/
theorem new_ok (B : Nat) (E : Addr) (v : Value) (ns : List Nv) (T : Tr) (w : World) (h : Nodes w v ns) (hG : Glo B w E) (hB : B ≤ w.heap.size) (hT : ns.map toE = T) (hg : Gd T 4) (hw : weight T ≤ 60000) (hl : T.length ≤ 1000) :
    Calls Tryz.prog 11 #[.agg #[v, .int .i64 4, .int .i64 60000]] w fun r w' => ∃ G, r = .returned (.tuple #[.pointer (some ⟨G, 0, none⟩), .int .i64 0]) ∧ IsFs w' (fun i => w.heap.size ≤ i) G T 4 60000 ∧ Below w.heap.size w w' := by
  subst hT
  have hn := new_of_gd (ns := ns) (clk := 4) (rm := 60000) hg (by decide) (by omega) (by simpa using hl)
  have q := New_any B E v ns 4 60000 w h hG hB (fun n hn => by
    have := valid_len (hg.val (toE n) (List.mem_map.2 ⟨n, hn, rfl⟩)).1
    show n.path.length ≤ 400000
    have e : (toE n).1 = n.path := rfl
    rw [e] at this
    omega)
  rw [hn] at q
  refine q.mono ?_
  rintro r w' ⟨hb, G, rfl, hf⟩
  exact ⟨G, rfl, hf, hb⟩
end Go.Proofs.YtbfchadcpokjoaaGreatDoor
