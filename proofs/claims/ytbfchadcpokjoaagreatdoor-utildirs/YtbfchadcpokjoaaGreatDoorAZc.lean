/- The contract of vfs.Read. makeDir, isDir, and what rm does to a word. NotDir and Join of small names; read, write; place, cp, mv. place, cp, mv. -/
import Derived.Test.YtbfchadcpokjoaaGreatDoorAZm
import Derived.Test.YtbfchadcpokjoaaGreatDoorAZu
import Derived.BigQuiet
namespace Go.Proofs.YtbfchadcpokjoaaGreatDoor
open Go.RowKit Go.Maps

def readR (T : Tr) (p : Bs) : Nat ⊕ Bs := match lookN T p with
  | .bad m => .inl m
  | .non => .inl 10
  | .rt => .inl 12
  | .is n => if n.dir then .inl 12 else .inr n.data
def ReadV (w : World) (r : Nat ⊕ Bs) (e : Ending) (w' : World) : Prop := Below w.heap.size w w' ∧ ∃ (bv : Value) (er : Int), e = .returned (.tuple #[bv, .int .i64 er]) ∧ match r with
  | .inl m => bv = .slice none 0 0 ∧ er = m
  | .inr bs => Dat w' bv bs ∧ er = 0 ∧ ∀ g, bv.ownBlock = some g → w.heap.size ≤ g
set_option maxRecDepth 100000 in
set_option maxHeartbeats 4000000 in
theorem Read_any (B A : Nat) (E : Addr) (T : Tr) (clk rm : Int) (s : ByteArray) (S : Nat → Prop) (w : World) (h : IsFs w S A T clk rm) (hG : Glo B w E) (hB : B ≤ w.heap.size) (hs : s.size ≤ 400000) (hD : ∀ e ∈ T, e.2.data.length ≤ 1000000) :
    Calls Tryz.prog 13 #[.pointer (some ⟨A, 0, none⟩), .string s] w (ReadV w (readR T (clean (tl s)))) := by
  obtain ⟨M, L, hF, hO, rfl⟩ := h.mem
  have q1 := clean_any s (by omega)
  have q2 := fun w1 (hb : Below w.heap.size w w1) => file_any B A M L (weight (nds L)) clk rm (clean (tl s)) w1 E (hF.below hb) (hG.keep (hb.mono hB)) (Nat.le_trans hB hb.size) (cln_len s hs)
  unfold readR
  rw [lookV_nd]
  generalize clean (tl s) = c at q1 q2
  cases hl : lookV L c with
  | bad n =>
    rw [hl] at q2
    simp only [Lk.map]
    go_enter Tryz.func13, Tryz.ntmps13
    go_wp2_with fail
    refine (orEmpty_some A _).mono ?_
    rintro r w0 ⟨rfl, hw0⟩
    obtain rfl : w = w0 := hw0.symm
    go_wp2_with fail
    refine (q1 _).mono ?_
    rintro r w1 ⟨rfl, hb1⟩
    go_wp2_with fail
    refine (q2 w1 hb1).mono ?_
    rintro r w2 ⟨⟨b, rfl, hf⟩, hb2⟩
    have hB2 : Below w.heap.size w w2 := hb1.trans (hb2.mono hb1.size)
    have q3 := number_any B E _ (.no n) w2 (hG.keep (hB2.mono hB)) ⟨b, rfl, hf⟩
    have HB2 := hide' hB2
    clear hb1 hb2 hB2 hf
    go_wp2_with fail
    refine q3.mono ?_
    rintro r w3 ⟨rfl, hb3⟩
    have HB3 := hide' (HB2.out.trans (hb3.mono HB2.out.size))
    clear hb3 q3 HB2
    dsimp only [Er.num]
    go_wp2_with fail
    refine bodyPost_ret (v := .tuple #[.slice none 0 0, .int .i64 n]) (by simp [results, Tryz.results13, go_sem]) rfl ?_
    exact ⟨HB3.out, _, _, rfl, rfl, rfl⟩
  | non =>
    rw [hl] at q2
    simp only [Lk.map]
    go_enter Tryz.func13, Tryz.ntmps13
    go_wp2_with fail
    refine (orEmpty_some A _).mono ?_
    rintro r w0 ⟨rfl, hw0⟩
    obtain rfl : w = w0 := hw0.symm
    go_wp2_with fail
    refine (q1 _).mono ?_
    rintro r w1 ⟨rfl, hb1⟩
    go_wp2_with fail
    refine (q2 w1 hb1).mono ?_
    rintro r w2 ⟨⟨b, rfl, hf⟩, hb2⟩
    have hB2 : Below w.heap.size w w2 := hb1.trans (hb2.mono hb1.size)
    have q3 := number_any B E _ .nothing w2 (hG.keep (hB2.mono hB)) ⟨b, rfl, hf⟩
    have HB2 := hide' hB2
    clear hb1 hb2 hB2 hf
    go_wp2_with fail
    refine q3.mono ?_
    rintro r w3 ⟨rfl, hb3⟩
    have HB3 := hide' (HB2.out.trans (hb3.mono HB2.out.size))
    clear hb3 q3 HB2
    dsimp only [Er.num]
    go_wp2_with fail
    refine bodyPost_ret (v := .tuple #[.slice none 0 0, .int .i64 10]) (by simp [results, Tryz.results13, go_sem]) rfl ?_
    exact ⟨HB3.out, _, _, rfl, rfl, rfl⟩
  | rt =>
    rw [hl] at q2
    simp only [Lk.map]
    go_enter Tryz.func13, Tryz.ntmps13
    go_wp2_with fail
    refine (orEmpty_some A _).mono ?_
    rintro r w0 ⟨rfl, hw0⟩
    obtain rfl : w = w0 := hw0.symm
    go_wp2_with fail
    refine (q1 _).mono ?_
    rintro r w1 ⟨rfl, hb1⟩
    go_wp2_with fail
    refine (q2 w1 hb1).mono ?_
    rintro r w2 ⟨⟨b, rfl, hf⟩, hb2⟩
    have hB2 : Below w.heap.size w w2 := hb1.trans (hb2.mono hb1.size)
    have q3 := number_any B E _ (.no 12) w2 (hG.keep (hB2.mono hB)) ⟨b, rfl, hf⟩
    have HB2 := hide' hB2
    clear hb1 hb2 hB2 hf
    go_wp2_with fail
    refine q3.mono ?_
    rintro r w3 ⟨rfl, hb3⟩
    have HB3 := hide' (HB2.out.trans (hb3.mono HB2.out.size))
    clear hb3 q3 HB2
    dsimp only [Er.num]
    go_wp2_with fail
    refine bodyPost_ret (v := .tuple #[.slice none 0 0, .int .i64 12]) (by simp [results, Tryz.results13, go_sem]) rfl ?_
    exact ⟨HB3.out, _, _, rfl, rfl, rfl⟩
  | is e =>
    rw [hl] at q2
    simp only [Lk.map]
    obtain ⟨k, hm⟩ := lookV_mem hl
    cases hd : e.nd.dir with
    | true =>
      have q2' := q2
      simp only [fileOf, hd, if_true] at q2'
      clear q2
      have q2 := q2'
      clear q2'
      simp only [if_true]
      go_enter Tryz.func13, Tryz.ntmps13
      go_wp2_with fail
      refine (orEmpty_some A _).mono ?_
      rintro r w0 ⟨rfl, hw0⟩
      obtain rfl : w = w0 := hw0.symm
      go_wp2_with fail
      refine (q1 _).mono ?_
      rintro r w1 ⟨rfl, hb1⟩
      go_wp2_with fail
      refine (q2 w1 hb1).mono ?_
      rintro r w2 ⟨⟨b, rfl, hf⟩, hb2⟩
      have hB2 : Below w.heap.size w w2 := hb1.trans (hb2.mono hb1.size)
      have q3 := number_any B E _ (.no 12) w2 (hG.keep (hB2.mono hB)) ⟨b, rfl, hf⟩
      have HB2 := hide' hB2
      clear hb1 hb2 hB2 hf
      go_wp2_with fail
      refine q3.mono ?_
      rintro r w3 ⟨rfl, hb3⟩
      have HB3 := hide' (HB2.out.trans (hb3.mono HB2.out.size))
      clear hb3 q3 HB2
      dsimp only [Er.num]
      go_wp2_with fail
      refine bodyPost_ret (v := .tuple #[.slice none 0 0, .int .i64 12]) (by simp [results, Tryz.results13, go_sem]) rfl ?_
      exact ⟨HB3.out, _, _, rfl, rfl, rfl⟩
    | false =>
      simp only [Bool.false_eq_true, if_false]
      have q2' := q2
      simp only [fileOf, hd, Bool.false_eq_true, if_false] at q2'
      clear q2
      have q2 := q2'
      clear q2'
      have hn : NodeAt w e := hF.nodes _ hm
      have hdat := hO.dat _ hm
      have hdl : e.nd.data.length ≤ 1000000 := hD _ (List.mem_map.2 ⟨_, hm, rfl⟩)
      have hneq : ∀ w : World, (binOp .neq 55 .nilIface .nilIface).run Tryz.prog w = .ok (.bool false) w := fun w => by kernel_rfl
      go_enter Tryz.func13, Tryz.ntmps13
      go_wp2_with fail
      refine (orEmpty_some A _).mono ?_
      rintro r w0 ⟨rfl, hw0⟩
      obtain rfl : w = w0 := hw0.symm
      go_wp2_with fail
      refine (q1 _).mono ?_
      rintro r w1 ⟨rfl, hb1⟩
      go_wp2_with fail
      refine (q2 w1 hb1).mono ?_
      rintro r w2 ⟨rfl, hb2⟩
      have hB2 : Below w.heap.size w w2 := hb1.trans (hb2.mono hb1.size)
      have c2 := (hn.below hB2).c2
      have hrd := hdat.rds.below hB2
      have q3 := own_any _ _ w2 hrd (by omega)
      obtain ⟨da, dc, hdv⟩ := hrd.len
      rw [hdv] at q3 c2
      have HB2 := hide' hB2
      clear hb1 hb2 hB2 hrd hn hdat
      go_wp2_with fail
      refine q3.mono ?_
      rintro r w3 ⟨v', rfl, hd3, ho3, hb3⟩
      have HF := hide' (And.intro (HB2.out.trans (hb3.mono HB2.out.size)) (And.intro hd3 (fun g hg => (by rw [ho3 g hg]; exact HB2.out.size : w.heap.size ≤ g))))
      clear hb3 hd3 ho3 q3 HB2
      dsimp only
      go_wp2_with fail
      refine bodyPost_ret (v := .tuple #[v', .int .i64 0]) (by simp [results, Tryz.results13, go_sem]) rfl ?_
      exact ⟨HF.out.1, _, _, rfl, HF.out.2.1, rfl, HF.out.2.2⟩
end Go.Proofs.YtbfchadcpokjoaaGreatDoor
namespace Go.Proofs.YtbfchadcpokjoaaGreatDoor
open Go.RowKit

/-- what a call of the file system has told, as an error -/
def ErAt (S : Nat → Prop) (A : Nat) (rm : Int) (w : World) (r : Ending) (w' : World) (o : Out) : Prop :=
  ((o.1 = 0 ∧ r = .returned .nilIface) ∨ (o.1 ≠ 0 ∧ ∃ a, r = .returned (.iface 174 (.pointer (some a))))) ∧ ∃ S', IsFs w' S' A o.2.1 o.2.2 rm ∧ Turn S w w' ∧ ∀ i, S' i → S i ∨ w.heap.size ≤ i
set_option maxRecDepth 100000 in
set_option maxHeartbeats 4000000 in
theorem makeDir_any (B A C : Nat) (E : Addr) (T : Tr) (clk rm : Int) (s : ByteArray) (S : Nat → Prop) (y iv ov : Value) (w : World) (hC : CallAt w C (.pointer (some ⟨A, 0, none⟩)) y iv ov) (h : IsFs w S A T clk rm) (hG : Glo B w E) (hB : B ≤ w.heap.size) (hS : ∀ i, S i → B ≤ i) (hk1 : clk ≤ 1099511627776000) (hs : s.size ≤ 400000) :
    Calls Tryz.prog 97 #[.pointer (some ⟨C, 0, none⟩), .string s] w fun r w' => ErAt S A rm w r w' (mkdirR T clk rm (clean (tl s))) := by
  have q := Mkdir_any B A E T clk rm s S w h hG hB hS hk1 hs
  generalize mkdirR T clk rm (clean (tl s)) = o at q
  have c0 : w.cell? ⟨C, 0, none⟩ = some (.pointer (some ⟨A, 0, none⟩)) := by rw [Lib.cell_of_heap hC]; rfl
  have HQ := hide' q
  clear q h hG hS hC
  go_enter Tryz.func97, Tryz.ntmps97
  go_wp2_with fail
  refine HQ.out.mono ?_
  rintro r w1 ⟨rfl, S', hf, ht, hsb⟩
  by_cases h0 : o.1 = 0
  · rw [h0]
    go_wp2_with fail
    refine (met_ok w1 _).mono ?_
    rintro r w2 ⟨rfl, rfl⟩
    go_wp2
    go_ret
    exact ⟨.inl ⟨h0, rfl⟩, S', hf, ht, hsb⟩
  · have hb : ((o.1 : Nat) : Int) ≠ 0 := by omega
    go_wp2_with fail
    refine (met_err w1 s _ hb).mono ?_
    rintro r w2 ⟨rfl, rfl⟩
    go_wp2
    go_ret
    exact ⟨.inr ⟨h0, _, rfl⟩, S', hf.below ((Below.refl _ _).alloc (Nat.le_refl _) _), ht.alloc _, hsb⟩
set_option maxRecDepth 100000 in
set_option maxHeartbeats 4000000 in
theorem isDir_any (B A C : Nat) (E : Addr) (T : Tr) (clk rm : Int) (s : ByteArray) (S : Nat → Prop) (y iv ov : Value) (w : World) (hC : CallAt w C (.pointer (some ⟨A, 0, none⟩)) y iv ov) (h : IsFs w S A T clk rm) (hG : Glo B w E) (hB : B ≤ w.heap.size) (hs : s.size ≤ 400000) :
    Calls Tryz.prog 117 #[.pointer (some ⟨C, 0, none⟩), .string s] w fun r w' => r = .returned (.bool ((statR T (clean (tl s))).1 == 2)) ∧ Below w.heap.size w w' := by
  have q := Stat_any B A E T clk rm s S w h hG hB hs
  generalize statR T (clean (tl s)) = o at q
  obtain ⟨o1, o2, o3⟩ := o
  simp only [statV] at q
  have hfl : ∀ W : World, (Instr.field 44 (.agg #[.int .i64 o1, .int .i64 o2, .int .i64 o3]) 0).run Tryz.prog W = .ok (.int .i64 o1) W := fun W => by kernel_rfl
  have c0 : w.cell? ⟨C, 0, none⟩ = some (.pointer (some ⟨A, 0, none⟩)) := by rw [Lib.cell_of_heap hC]; rfl
  have HQ := hide' q
  clear q h hG hC
  go_enter Tryz.func117, Tryz.ntmps117
  go_wp2_with fail
  refine HQ.out.mono ?_
  rintro r w1 ⟨rfl, hb⟩
  go_wp2
  go_ret
  exact ⟨rfl, hb⟩
end Go.Proofs.YtbfchadcpokjoaaGreatDoor
namespace Go.Proofs.YtbfchadcpokjoaaGreatDoor
open Go.RowKit Go.Maps

set_option maxRecDepth 100000 in
set_option maxHeartbeats 2000000 in
theorem last_one (c : UInt8) (hc : c ≠ 47) (w : World) : Calls Tryz.prog 151 #[.string (mk [c]), .int .u8 47] w fun r w' => r = .returned (.int .i64 (-1)) ∧ w' = w := by
  have hi : ∀ W : World, (Instr.index 9 (.string (mk [c])) (.int .i64 0)).run Tryz.prog W = .ok (.int .u8 c.toNat) W := fun W => by
    have hx : (mk [c])[0]'(by rw [mk_size]; simp) = c := rfl
    simp [Instr.index, go_sem, mk_size]
    exact congrArg (fun x : UInt8 => (x.toNat : Int)) hx
  have hz : (mk [c]).size = 1 := mk_size [c]
  have hne : ((c.toNat : Int) == 47) = false := by
    rw [beq_eq_false_iff_ne]
    intro e
    apply hc
    have h47 : c.toNat = 47 := by omega
    exact UInt8.toNat_inj.1 h47
  have hne' : ¬ (c.toNat : Int) = 47 := by simpa using hne
  generalize (c.toNat : Int) = k at hi hne hne'
  generalize mk [c] = s at hi hz
  go_enter Tryz.func151, Tryz.ntmps151
  go_wp2
  go_step3
  go_wp2
  go_step3
  go_wp2_with fail
  refine wp_loop_rounds 2 ?_
  rw [rounds_succ]
  go_wp2_with fail
  rw [rounds_succ]
  go_wp2
  try rw [Exit.noGoto_ret]
  go_ret
  exact ⟨rfl, rfl⟩
set_option maxRecDepth 100000 in
set_option maxHeartbeats 2000000 in
theorem notDir_one (c : UInt8) (hc : c ≠ 47) (w : World) : Calls Tryz.prog 119 #[.string (mk [c])] w fun r w' => r = .returned (.string (mk [c])) ∧ Below w.heap.size w w' := by
  have q := last_one c hc
  have hz : (mk [c]).size = 1 := mk_size [c]
  have he : (mk [c]).extract 0 1 = mk [c] := by have h := ext_drop (mk [c]) 0; rw [mk_size, tl_mk] at h; exact h
  generalize mk [c] = s at q hz he
  have q2 := fun W => clone_any s W (by omega)
  go_enter Tryz.func119, Tryz.ntmps119
  go_wp2_with fail
  refine (q _).mono ?_
  rintro r w1 ⟨rfl, rfl⟩
  go_wp2_with fail
  refine (q2 _).mono ?_
  rintro r w2 ⟨rfl, hb⟩
  go_wp2
  go_ret
  exact ⟨rfl, hb⟩
theorem tl_app (a b : ByteArray) : tl (a ++ b) = tl a ++ tl b := by simp [tl]
set_option maxRecDepth 100000 in
theorem joinp_any (a b : Bs) (ha : a.length ≤ 200000) (hb : b.length ≤ 200000) (w : World) :
    Calls Tryz.prog 118 #[.string (mk a), .string (mk b)] w fun e w' => e = .returned (.string (mk (clean (a ++ 47 :: b)))) ∧ Below w.heap.size w w' := by
  have z1 := mk_size a
  have z2 := mk_size b
  have hsz : (mk a ++ ⟨#[47]⟩ ++ mk b).size ≤ 500000 := by
    rw [ByteArray.size_append, ByteArray.size_append, z1, z2]; show a.length + 1 + b.length ≤ 500000; omega
  have hc := clean_any (mk a ++ ⟨#[47]⟩ ++ mk b) hsz
  have e1 : tl (mk a ++ ⟨#[47]⟩ ++ mk b) = a ++ 47 :: b := by rw [tl_app, tl_app, tl_mk, tl_mk, List.append_assoc]; rfl
  simp only [e1] at hc
  have z3 : (mk a).size ≤ 200000 := by omega
  have z4 : (mk b).size ≤ 200000 := by omega
  clear e1 z1 z2
  go_enter Tryz.func118, Tryz.ntmps118
  go_wp2_with fail
  refine (hc _).mono ?_
  rintro e w1 ⟨rfl, hB⟩
  go_wp2
  go_ret
  exact ⟨rfl, hB⟩
/-- what read tells -/
def UrdV (w : World) (s : ByteArray) (r : Nat ⊕ Bs) (e : Ending) (w' : World) : Prop := Below w.heap.size w w' ∧ match r with
  | .inl m => ∃ g, e = .returned (.tuple #[.slice none 0 0, .iface 174 (.pointer (some ⟨g, 0, none⟩))]) ∧ w'.heap[g]? = some (.cells #[.string s, .iface 37 (.int .i64 m)] 176 (0, 0))
  | .inr bs => ∃ bv, e = .returned (.tuple #[bv, .nilIface]) ∧ Dat w' bv bs ∧ ∀ g, bv.ownBlock = some g → w.heap.size ≤ g
set_option maxRecDepth 100000 in
set_option maxHeartbeats 4000000 in
theorem uread_any (B A C : Nat) (E : Addr) (T : Tr) (clk rm : Int) (s : ByteArray) (S : Nat → Prop) (y iv ov : Value) (w : World) (hC : CallAt w C (.pointer (some ⟨A, 0, none⟩)) y iv ov) (h : IsFs w S A T clk rm) (hG : Glo B w E) (hB : B ≤ w.heap.size) (hs : s.size ≤ 400000) (hD : ∀ e ∈ T, e.2.data.length ≤ 1000000) (hn : ∀ m, readR T (clean (tl s)) = .inl m → m ≠ 0) :
    Calls Tryz.prog 84 #[.pointer (some ⟨C, 0, none⟩), .string s] w (UrdV w s (readR T (clean (tl s)))) := by
  have q := Read_any B A E T clk rm s S w h hG hB hs hD
  generalize readR T (clean (tl s)) = o at q hn
  have c0 : w.cell? ⟨C, 0, none⟩ = some (.pointer (some ⟨A, 0, none⟩)) := by rw [Lib.cell_of_heap hC]; rfl
  have HQ := hide' q
  clear q h hG hC hD
  go_enter Tryz.func84, Tryz.ntmps84
  go_wp2_with fail
  refine HQ.out.mono ?_
  rintro r w1 ⟨hb, bv, er, rfl, hm⟩
  cases o with
  | inl m =>
    obtain ⟨rfl, rfl⟩ := hm
    have h0 : (m : Int) ≠ 0 := by have := hn m rfl; omega
    go_wp2_with fail
    refine (met_err w1 s _ h0).mono ?_
    rintro r w2 ⟨rfl, rfl⟩
    go_wp2_with fail
    refine bodyPost_ret (v := .tuple #[.slice none 0 0, .iface 174 (.pointer (some ⟨w1.heap.size, 0, none⟩))]) (by simp [results, Tryz.results84, go_sem]) rfl ?_
    exact ⟨hb.alloc hb.size _, w1.heap.size, rfl, heap_alloc_new _ _⟩
  | inr bs =>
    obtain ⟨hd, rfl, ho⟩ := hm
    go_wp2_with fail
    refine (met_ok w1 _).mono ?_
    rintro r w2 ⟨rfl, rfl⟩
    go_wp2_with fail
    refine bodyPost_ret (v := .tuple #[bv, .nilIface]) (by simp [results, Tryz.results84, go_sem]) rfl ?_
    exact ⟨hb, bv, rfl, hd, ho⟩
set_option maxRecDepth 100000 in
set_option maxHeartbeats 4000000 in
theorem uwrite_any (B A C : Nat) (E : Addr) (T : Tr) (clk rm : Int) (s : ByteArray) (bs : Bs) (bv : Value) (S : Nat → Prop) (y iv ov : Value) (w : World) (hC : CallAt w C (.pointer (some ⟨A, 0, none⟩)) y iv ov) (h : IsFs w S A T clk rm) (hG : Glo B w E) (hB : B ≤ w.heap.size) (hS : ∀ i, S i → B ≤ i) (hk1 : clk ≤ 1099511627776000) (hs : s.size ≤ 400000) (hbv : Rds w bv bs) (hbl : bs.length ≤ 1000000) :
    Calls Tryz.prog 87 #[.pointer (some ⟨C, 0, none⟩), .string s, bv] w fun r w' => ErAt S A rm w r w' (writeR T clk rm (clean (tl s)) bs false) := by
  have q := Write_any B A E T clk rm s bs bv false S w h hG hB hS hk1 hs hbv hbl
  generalize writeR T clk rm (clean (tl s)) bs false = o at q
  have c0 : w.cell? ⟨C, 0, none⟩ = some (.pointer (some ⟨A, 0, none⟩)) := by rw [Lib.cell_of_heap hC]; rfl
  have HQ := hide' q
  clear q h hG hS hC hbv
  go_enter Tryz.func87, Tryz.ntmps87
  go_wp2_with fail
  refine HQ.out.mono ?_
  rintro r w1 ⟨rfl, S', hf, ht, hsb⟩
  by_cases h0 : o.1 = 0
  · rw [h0]
    go_wp2_with fail
    refine (met_ok w1 _).mono ?_
    rintro r w2 ⟨rfl, rfl⟩
    go_wp2
    go_ret
    exact ⟨.inl ⟨h0, rfl⟩, S', hf, ht, hsb⟩
  · have hb : ((o.1 : Nat) : Int) ≠ 0 := by omega
    go_wp2_with fail
    refine (met_err w1 s _ hb).mono ?_
    rintro r w2 ⟨rfl, rfl⟩
    go_wp2
    go_ret
    exact ⟨.inr ⟨h0, _, rfl⟩, S', hf.below ((Below.refl _ _).alloc (Nat.le_refl _) _), ht.alloc _, hsb⟩
end Go.Proofs.YtbfchadcpokjoaaGreatDoor
namespace Go.Proofs.YtbfchadcpokjoaaGreatDoor
open Go.RowKit Go.Maps

theorem status_ok (w : World) : Calls Tryz.prog 103 #[.nilIface] w fun r w' => r = .returned (.int .i64 0) ∧ w' = w := by
  have hn := neq_nil57
  go_enter Tryz.func103, Tryz.ntmps103
  go_wp2
  go_ret
  exact ⟨rfl, rfl⟩
/-- where the second operand leads -/
def placeQ (T : Tr) (q : Bs) : Bs := if (statR T (clean q)).1 == 2 then clean (q ++ 47 :: [97]) else q
set_option maxRecDepth 100000 in
set_option maxHeartbeats 4000000 in
theorem place_ok (k : Nat) (hcf : ∀ (xs : Array Value) (W : World), (callFunc k xs).run Tryz.prog W = .ok (.enter k xs) W) (B A C : Nat) (E : Addr) (T : Tr) (clk rm : Int) (S : Nat → Prop) (y iv ov : Value) (w : World) (q : Bs) (hql : q.length ≤ 1000) (hC : CallAt w C (.pointer (some ⟨A, 0, none⟩)) y iv ov) (h : IsFs w S A T clk rm) (hG : Glo B w E) (hB : B ≤ w.heap.size) (hy : Txs w y [[97], q]) (bx : Value) (P : World → Prop)
    (hq : ∀ W, Below w.heap.size w W → Calls Tryz.prog k #[.string (mk [97]), .string (mk (placeQ T q)), bx] W fun r w' => r = .returned .nilIface ∧ P w') :
    Calls Tryz.prog 85 #[.pointer (some ⟨C, 0, none⟩), .func (.func k) #[] #[bx]] w fun r w' => r = .returned (.int .i64 0) ∧ P w' := by
  rcases hy with ⟨_, _, _, hbad⟩ | ⟨g, o, c, rfl, h2, h3, h4⟩
  · cases hbad
  have x0 : w.cell? ⟨g, o, none⟩ = some (.string (mk [97])) := h4 0 [97] rfl
  have x1 : w.cell? ⟨g, o + 1, none⟩ = some (.string (mk q)) := h4 1 q rfl
  have c1 : w.cell? ⟨C, 1, none⟩ = some (.slice (some ⟨g, o, none⟩) 2 c) := by rw [Lib.cell_of_heap hC]; rfl
  have q1 := fun n => isDir_any B A C E T clk rm (mk q) S (.slice (some ⟨g, o, none⟩) [[97], q].length c) iv ov (w.drewN n) ((below_drewn (B := w.heap.size) (w := w) n).block C (lt_of_block hC) |>.trans hC) (h.below (below_drewn n)) (hG.keep ((below_drewn (B := w.heap.size) (w := w) n).mono hB)) hB (by rw [mk_size]; omega)
  simp only [tl_mk] at q1
  unfold placeQ at hq
  have HQ := hide' hq
  have HQ1 := hide' q1
  clear hq q1 h hG hC h4
  generalize ((statR T (clean q)).1 == 2) = d at HQ HQ1
  go_enter Tryz.func85, Tryz.ntmps85
  go_upto_region 3 with fail
  go_quiet (fail)
  go_wp2_with fail
  refine (HQ1.out _).mono ?_
  rintro r w1 ⟨rfl, hb1⟩
  have hb1' : Below w.heap.size w w1 := (below_drewn (B := w.heap.size) (w := w) nq).trans hb1
  clear hb1 HQ1 x0 x1 c1
  cases d with
  | true =>
    go_wp2_with fail
    refine (notDir_one 97 (by decide) w1).mono ?_
    rintro r w2 ⟨rfl, hb2⟩
    go_wp2_with fail
    refine (joinp_any q [97] (by omega) (by simp) w2).mono ?_
    rintro r w3 ⟨rfl, hb3⟩
    have hb : Below w.heap.size w w3 := (hb1'.trans (hb2.mono hb1'.size)).trans (hb3.mono (by have := hb1'.size; have := hb2.size; omega))
    have q2 := HQ.out w3 hb
    simp only [if_true] at q2
    have HQ2 := hide' q2
    clear q2 HQ hb hb1' hb2 hb3
    go_wp2_with fail
    refine HQ2.out.mono ?_
    rintro r w4 ⟨rfl, hP⟩
    go_wp2_with fail
    refine (status_ok w4).mono ?_
    rintro r w5 ⟨rfl, rfl⟩
    go_wp2
    go_ret
    exact ⟨rfl, hP⟩
  | false =>
    have q2 := HQ.out w1 hb1'
    simp only [Bool.false_eq_true, if_false] at q2
    have HQ2 := hide' q2
    clear q2 HQ hb1'
    go_wp2_with fail
    refine HQ2.out.mono ?_
    rintro r w4 ⟨rfl, hP⟩
    go_wp2_with fail
    refine (status_ok w4).mono ?_
    rintro r w5 ⟨rfl, rfl⟩
    go_wp2
    go_ret
    exact ⟨rfl, hP⟩
/-- a file system behind a call that went well -/
def FsOk (S : Nat → Prop) (A : Nat) (rm : Int) (T' : Tr) (clk' : Int) (w w' : World) : Prop := ∃ S', IsFs w' S' A T' clk' rm ∧ Turn S w w' ∧ ∀ i, S' i → S i ∨ w.heap.size ≤ i
set_option maxRecDepth 100000 in
set_option maxHeartbeats 4000000 in
theorem cp1_ok (B A C Bx : Nat) (E : Addr) (T T' : Tr) (clk clk' rm : Int) (p q d : Bs) (S : Nat → Prop) (y iv ov : Value) (w : World) (hC : CallAt w C (.pointer (some ⟨A, 0, none⟩)) y iv ov) (h : IsFs w S A T clk rm) (hG : Glo B w E) (hB : B ≤ w.heap.size) (hS : ∀ i, S i → B ≤ i) (hk1 : clk ≤ 1099511627776000) (hx : w.cell? ⟨Bx, 0, none⟩ = some (.pointer (some ⟨C, 0, none⟩))) (hxl : Bx < w.heap.size) (hpl : p.length ≤ 1000) (hql : q.length ≤ 100000) (hD : ∀ e ∈ T, e.2.data.length ≤ 1000000)
    (hr : readR T (clean p) = .inr d) (hdl : d.length ≤ 1000000) (hw : writeR T clk rm (clean q) d false = (0, T', clk')) :
    Calls Tryz.prog 86 #[.string (mk p), .string (mk q), .pointer (some ⟨Bx, 0, none⟩)] w fun r w' => r = .returned .nilIface ∧ FsOk S A rm T' clk' w w' := by
  have q1 := uread_any B A C E T clk rm (mk p) S y iv ov w hC h hG hB (by rw [mk_size]; omega) hD
  rw [tl_mk, hr] at q1
  have q1 := q1 (fun m e => by cases e)
  have hCl := lt_of_block hC
  have q2 := fun (w1 : World) (hb : Below w.heap.size w w1) (bv : Value) (hbv : Rds w1 bv d) => uwrite_any B A C E T clk rm (mk q) d bv S y iv ov w1 ((hb.block C hCl).trans hC) (h.below hb) (hG.keep (hb.mono hB)) (Nat.le_trans hB hb.size) hS hk1 (by rw [mk_size]; omega) hbv hdl
  simp only [tl_mk, hw] at q2
  have HQ1 := hide' q1
  have HQ2 := hide' q2
  clear q1 q2 h hG hC hD
  go_enter Tryz.func86, Tryz.ntmps86
  go_wp2_with fail
  refine HQ1.out.mono ?_
  rintro r w1 ⟨hb, bv, rfl, hd, ho⟩
  have hx1 : w1.cell? ⟨Bx, 0, none⟩ = some (.pointer (some ⟨C, 0, none⟩)) := (hb.cell (p := ⟨Bx, 0, none⟩) hxl).trans hx
  have hn := neq_nil57
  have q := HQ2.out w1 hb bv hd.rds
  have HQ := hide' q
  clear q HQ1 HQ2 hd ho
  go_wp2_with fail
  refine HQ.out.mono ?_
  rintro r w2 ⟨he, S', hf, ht, hsb⟩
  rcases he with ⟨_, rfl⟩ | ⟨hne, _⟩
  · go_wp2
    go_ret
    exact ⟨rfl, S', hf, (Turn.of_below (S := S) hb).trans' ht, fun i hi => (hsb i hi).imp_right fun h => Nat.le_trans hb.size h⟩
  · exact absurd rfl hne
set_option maxRecDepth 100000 in
set_option maxHeartbeats 4000000 in
theorem mv1_ok (B A C Bx : Nat) (E : Addr) (T T' : Tr) (clk clk' rm : Int) (p q : Bs) (S : Nat → Prop) (y iv ov : Value) (w : World) (hC : CallAt w C (.pointer (some ⟨A, 0, none⟩)) y iv ov) (h : IsFs w S A T clk rm) (hG : Glo B w E) (hB : B ≤ w.heap.size) (hS : ∀ i, S i → B ≤ i) (hk1 : clk ≤ 1099511627776000) (hx : w.cell? ⟨Bx, 0, none⟩ = some (.pointer (some ⟨C, 0, none⟩))) (hpl : p.length ≤ 1000) (hql : q.length ≤ 100000)
    (hr : renameR T clk (clean p) (clean q) = (0, T', clk')) :
    Calls Tryz.prog 88 #[.string (mk p), .string (mk q), .pointer (some ⟨Bx, 0, none⟩)] w fun r w' => r = .returned .nilIface ∧ FsOk S A rm T' clk' w w' := by
  have q1 := Rename_any B A E T clk rm (mk p) (mk q) S w h hG hB hS hk1 (by rw [mk_size]; omega) (by rw [mk_size]; omega)
  rw [tl_mk, tl_mk, hr] at q1
  have c0 : w.cell? ⟨C, 0, none⟩ = some (.pointer (some ⟨A, 0, none⟩)) := by rw [Lib.cell_of_heap hC]; rfl
  have HQ1 := hide' q1
  clear q1 h hG hC
  go_enter Tryz.func88, Tryz.ntmps88
  go_wp2_with fail
  refine HQ1.out.mono ?_
  rintro r w1 ⟨rfl, S', hf, ht, hsb⟩
  go_wp2_with fail
  refine (met_ok w1 _).mono ?_
  rintro r w2 ⟨rfl, rfl⟩
  go_wp2
  go_ret
  exact ⟨rfl, S', hf, ht, hsb⟩
theorem cf86 (xs : Array Value) (W : World) : (callFunc 86 xs).run Tryz.prog W = .ok (.enter 86 xs) W := by kernel_rfl
theorem cf88 (xs : Array Value) (W : World) : (callFunc 88 xs).run Tryz.prog W = .ok (.enter 88 xs) W := by kernel_rfl
set_option maxRecDepth 100000 in
set_option maxHeartbeats 4000000 in
theorem cp_ok (B A C : Nat) (E : Addr) (T T' : Tr) (clk clk' rm : Int) (q d : Bs) (S : Nat → Prop) (y iv ov : Value) (w : World) (hql : q.length ≤ 1000) (hC : CallAt w C (.pointer (some ⟨A, 0, none⟩)) y iv ov) (h : IsFs w S A T clk rm) (hG : Glo B w E) (hB : B ≤ w.heap.size) (hS : ∀ i, S i → B ≤ i) (hk1 : clk ≤ 1099511627776000) (hy : Txs w y [[97], q]) (hD : ∀ e ∈ T, e.2.data.length ≤ 1000000)
    (hr : readR T (clean [97]) = .inr d) (hdl : d.length ≤ 1000000) (hqq : (placeQ T q).length ≤ 100000) (hw : writeR T clk rm (clean (placeQ T q)) d false = (0, T', clk')) :
    Calls Tryz.prog 48 #[.pointer (some ⟨C, 0, none⟩)] w fun r w' => r = .returned (.int .i64 0) ∧ FsOk S A rm T' clk' w w' := by
  have hb0 : Below w.heap.size w (w.alloc (.cells #[.pointer (some ⟨C, 0, none⟩)] 71)) := (Below.refl _ _).alloc (Nat.le_refl _) _
  have hx0 : (w.alloc (.cells #[.pointer (some ⟨C, 0, none⟩)] 71)).heap[w.heap.size]? = some (.cells #[.pointer (some ⟨C, 0, none⟩)] 71 (0, 0)) := heap_alloc_new w _
  have hCl := lt_of_block hC
  have q1 := place_ok 86 cf86 B A C E T clk rm S y iv ov (w.alloc (.cells #[.pointer (some ⟨C, 0, none⟩)] 71)) q hql ((hb0.block C hCl).trans hC) (h.below hb0) (hG.keep (hb0.mono hB)) (Nat.le_trans hB hb0.size) (hy.below hb0 (Nat.le_refl _)) (.pointer (some ⟨w.heap.size, 0, none⟩)) (fun w' => FsOk S A rm T' clk' w w') (fun W hb => by
    have hb' : Below w.heap.size w W := hb0.trans (hb.mono (by simp))
    have hxW : W.cell? ⟨w.heap.size, 0, none⟩ = some (.pointer (some ⟨C, 0, none⟩)) := by rw [Lib.cell_of_heap ((hb.block w.heap.size (by simp)).trans hx0)]; rfl
    refine (cp1_ok B A C w.heap.size E T T' clk clk' rm [97] (placeQ T q) d S y iv ov W ((hb'.block C hCl).trans hC) (h.below hb') (hG.keep (hb'.mono hB)) (Nat.le_trans hB hb'.size) hS hk1 hxW (by have := hb.size; simp at this; omega) (by simp) hqq hD hr hdl hw).mono ?_
    rintro r w' ⟨rfl, S', hf, ht, hsb⟩
    exact ⟨rfl, S', hf, (Turn.of_below (S := S) hb').trans' ht, fun i hi => (hsb i hi).imp_right fun h => Nat.le_trans hb'.size h⟩)
  have HQ := hide' q1
  clear q1 h hG hC hy hD hb0 hx0
  go_enter Tryz.func48, Tryz.ntmps48
  go_wp2_with fail
  refine HQ.out.mono ?_
  rintro r w1 ⟨rfl, hP⟩
  go_wp2
  go_ret
  exact ⟨rfl, hP⟩
set_option maxRecDepth 100000 in
set_option maxHeartbeats 4000000 in
theorem mv_ok (B A C : Nat) (E : Addr) (T T' : Tr) (clk clk' rm : Int) (q : Bs) (S : Nat → Prop) (y iv ov : Value) (w : World) (hql : q.length ≤ 1000) (hC : CallAt w C (.pointer (some ⟨A, 0, none⟩)) y iv ov) (h : IsFs w S A T clk rm) (hG : Glo B w E) (hB : B ≤ w.heap.size) (hS : ∀ i, S i → B ≤ i) (hk1 : clk ≤ 1099511627776000) (hy : Txs w y [[97], q])
    (hqq : (placeQ T q).length ≤ 100000) (hr : renameR T clk (clean [97]) (clean (placeQ T q)) = (0, T', clk')) :
    Calls Tryz.prog 49 #[.pointer (some ⟨C, 0, none⟩)] w fun r w' => r = .returned (.int .i64 0) ∧ FsOk S A rm T' clk' w w' := by
  have hb0 : Below w.heap.size w (w.alloc (.cells #[.pointer (some ⟨C, 0, none⟩)] 71)) := (Below.refl _ _).alloc (Nat.le_refl _) _
  have hx0 : (w.alloc (.cells #[.pointer (some ⟨C, 0, none⟩)] 71)).heap[w.heap.size]? = some (.cells #[.pointer (some ⟨C, 0, none⟩)] 71 (0, 0)) := heap_alloc_new w _
  have hCl := lt_of_block hC
  have q1 := place_ok 88 cf88 B A C E T clk rm S y iv ov (w.alloc (.cells #[.pointer (some ⟨C, 0, none⟩)] 71)) q hql ((hb0.block C hCl).trans hC) (h.below hb0) (hG.keep (hb0.mono hB)) (Nat.le_trans hB hb0.size) (hy.below hb0 (Nat.le_refl _)) (.pointer (some ⟨w.heap.size, 0, none⟩)) (fun w' => FsOk S A rm T' clk' w w') (fun W hb => by
    have hb' : Below w.heap.size w W := hb0.trans (hb.mono (by simp))
    have hxW : W.cell? ⟨w.heap.size, 0, none⟩ = some (.pointer (some ⟨C, 0, none⟩)) := by rw [Lib.cell_of_heap ((hb.block w.heap.size (by simp)).trans hx0)]; rfl
    refine (mv1_ok B A C w.heap.size E T T' clk clk' rm [97] (placeQ T q) S y iv ov W ((hb'.block C hCl).trans hC) (h.below hb') (hG.keep (hb'.mono hB)) (Nat.le_trans hB hb'.size) hS hk1 hxW (by simp) hqq hr).mono ?_
    rintro r w' ⟨rfl, S', hf, ht, hsb⟩
    exact ⟨rfl, S', hf, (Turn.of_below (S := S) hb').trans' ht, fun i hi => (hsb i hi).imp_right fun h => Nat.le_trans hb'.size h⟩)
  have HQ := hide' q1
  clear q1 h hG hC hy hb0 hx0
  go_enter Tryz.func49, Tryz.ntmps49
  go_wp2_with fail
  refine HQ.out.mono ?_
  rintro r w1 ⟨rfl, hP⟩
  go_wp2
  go_ret
  exact ⟨rfl, hP⟩
end Go.Proofs.YtbfchadcpokjoaaGreatDoor
