import Derived.Test.YtabmnkddmdffkaaGreatDoorATreeAnyG
import Derived.Test.YtabmnkddmdffkaaGreatDoorACleanG
import Derived.Test.YtabmnkddmdffkaaGreatDoorALookG
namespace Go.Proofs.YtabmnkddmdffkaaGreatDoor
open Go.RowKit Go.Maps
def dsum : List Nv → Nat
 | [] => 0
 | n :: r => n.nd.data.length + dsum r
theorem dsum_snoc (l : List Nv) (n : Nv) : dsum (l ++ [n]) = dsum l + n.nd.data.length := by
 induction l with
 | nil => simp [dsum]
 | cons x r ih => simp only [List.cons_append, dsum, ih]; omega
theorem dsum_weight (ns : List Nv) : weight (ns.map toE) = ns.length + dsum ns := by
 unfold weight
 induction ns with
 | nil => rfl
 | cons n r ih =>
  simp only [List.map_cons, sumOf, ih, List.length_cons, dsum, toE, Nd.wt]
  omega
theorem dsum_le (ns : List Nv) (h : ∀ n ∈ ns, n.nd.data.length ≤ 65536) : dsum ns ≤ ns.length * 65536 := by
 induction ns with
 | nil => simp [dsum]
 | cons n r ih =>
  have h1 := h n List.mem_cons_self
  have h2 := ih fun m hm => h m (List.mem_cons_of_mem _ hm)
  simp only [dsum, List.length_cons]
  omega
theorem dsum_take {ns : List Nv} {k : Nat} {n : Nv} (hn : ns[k]? = some n) : dsum (ns.take (k + 1)) = dsum (ns.take k) + n.nd.data.length := by
 rw [List.take_add_one, hn]
 exact dsum_snoc _ _
set_option maxRecDepth 100000 in
set_option maxHeartbeats 2000000 in
theorem rweight_row (g o cap : Nat) (ns : List Nv) (w : World) (h : NRow w g o ns) (hr : ∀ n ∈ ns, Rds w n.dv n.nd.data) (hl : ns.length ≤ 1000) (hd : ∀ n ∈ ns, n.nd.data.length ≤ 65536) :
  Calls Tryz.prog 26 #[.slice (some ⟨g, o, none⟩) ns.length cap] w fun r w' => r = .returned (.int .i64 (weight (ns.map toE) : Nat)) ∧ w' = w := by
 go_enter Tryz.func26, Tryz.ntmps26
 go_wp2
 go_loopw [3, 4] (fun s i wr => ∃ k t : Nat, k ≤ ns.length ∧ i = .int .i64 k ∧ s = .int .i64 t ∧ t = ns.length + dsum (ns.take k) ∧ wr = w) (fun _ i _ => ns.length - (intOf i).toNat)
 case atStart => exact ⟨0, ns.length, by omega, rfl, rfl, by simp [dsum], rfl⟩
 case round =>
  obtain ⟨k, t, hk, rfl, rfl, ht, rfl⟩ := hrel
  by_cases hkl : k < ns.length
  ·have k1 : (k : Int) < ns.length := by omega
   obtain ⟨n, hn⟩ : ∃ n, ns[k]? = some n := ⟨_, List.getElem?_eq_getElem hkl⟩
   have d3 := h.c3 k n hn
   have hmem := List.mem_of_getElem? hn
   obtain ⟨da, dc, hdv⟩ := (hr n hmem).len
   rw [hdv] at d3
   have hb1 := hd n hmem
   have hb2 := dsum_le (ns.take k) fun m hm => hd m (List.mem_of_mem_take hm)
   rw [List.length_take] at hb2
   have hb3 : min k ns.length * 65536 ≤ 1000 * 65536 := Nat.mul_le_mul_right _ (by omega)
   have hb4 : t ≤ 100000000 := by omega
   have hst : t + n.nd.data.length = ns.length + dsum (ns.take (k + 1)) := by rw [dsum_take hn]; omega
   have HS := hide' hst
   generalize n.nd.data.length = dl at *
   clear h hr hd hn hmem ht hst hb2 hb3
   go_wp2
   exact ⟨⟨k + 1, t + dl, by omega, by simp, by simp, HS.out, trivial⟩, by simp [intOf]; omega⟩
  ·obtain rfl : k = ns.length := by omega
   have k1 : ¬ (ns.length : Int) < ns.length := by omega
   rw [List.take_length, ← dsum_weight] at ht
   subst ht
   go_wp2
   go_ret
   exact ⟨rfl, rfl⟩
theorem rweight_any (v : Value) (ns : List Nv) (w : World) (h : Nodes w v ns) (hl : ns.length ≤ 1000) (hd : ∀ n ∈ ns, n.nd.data.length ≤ 65536) :
  Calls Tryz.prog 26 #[v] w fun r w' => r = .returned (.int .i64 (weight (ns.map toE) : Nat)) ∧ w' = w := by
 rcases h with ⟨⟨a, c, rfl⟩, rfl⟩ | ⟨g, o, cap, rfl, h0, h1, h2⟩
 ·go_enter Tryz.func26, Tryz.ntmps26
  go_wp2
  go_loopw [3, 4] (fun s i wr => i = .int .i64 0 ∧ s = .int .i64 0 ∧ wr = w) (fun _ _ _ => 0)
  case atStart => exact ⟨rfl, rfl, rfl⟩
  case round =>
   obtain ⟨rfl, rfl, rfl⟩ := hrel
   go_wp2
   go_ret
   exact ⟨rfl, rfl⟩
 ·exact rweight_row g o cap ns w h1 h2 hl hd
def Rb (w : World) (R : Nat) (v : Value) (clk rm : Int) : Prop := w.heap[R]? = some (.cells #[v, .int .i64 clk, .int .i64 rm] 66 (0, 0))
def AtR (ns : List Nv) (p : Bs) (r : Int) : Prop := (r = -1 ∧ fnd (ns.map toE) p = none) ∨ ∃ k n, r = (k : Nat) ∧ ns[k]? = some n ∧ n.path = p
theorem srt_at {ns : List Nv} (h : Srt (ns.map toE)) {i j : Nat} {a b : Nv} (ha : ns[i]? = some a) (hb : ns[j]? = some b) (hij : i < j) : bytesBefore a.path b.path = true := by
 unfold Srt at h
 rw [List.pairwise_iff_getElem] at h
 obtain ⟨l1, g1⟩ := List.getElem?_eq_some_iff.1 ha
 obtain ⟨l2, g2⟩ := List.getElem?_eq_some_iff.1 hb
 have := h i j (by simpa using l1) (by simpa using l2) hij
 simpa [g1, g2, toE] using this
theorem at_none {ns : List Nv} {p : Bs} (h : ∀ (i : Nat) n, ns[i]? = some n → n.path ≠ p) : fnd (ns.map toE) p = none := by
 refine fnd_none_of fun e he => ?_
 obtain ⟨n, hn, rfl⟩ := List.mem_map.1 he
 obtain ⟨i, hi⟩ := List.getElem?_of_mem hn
 exact h i n hi
set_option maxRecDepth 100000 in
set_option maxHeartbeats 4000000 in
theorem rat_row (R g o cap : Nat) (ns : List Nv) (clk rm : Int) (p : Bs) (w : World) (hR : Rb w R (.slice (some ⟨g, o, none⟩) ns.length cap) clk rm) (h : NRow w g o ns) (hs : Srt (ns.map toE)) (hl : ns.length ≤ 1000) :
  Calls Tryz.prog 25 #[.pointer (some ⟨R, 0, none⟩), .string (mk p)] w fun r w' => (∃ x, r = .returned (.int .i64 x) ∧ AtR ns p x) ∧ w' = w := by
 have c0 : w.cell? ⟨R, 0, none⟩ = some (.slice (some ⟨g, o, none⟩) ns.length cap) := by unfold Rb at hR; rw [Lib.cell_of_heap hR]; rfl
 go_enter Tryz.func25, Tryz.ntmps25
 go_wp2
 go_loopw [5, 6] (fun a b wr => ∃ x y : Nat, a = .int .i64 x ∧ b = .int .i64 y ∧ x ≤ y ∧ y ≤ ns.length ∧ (∀ (i : Nat) n, ns[i]? = some n → i < x → bytesBefore n.path p = true) ∧ (∀ (i : Nat) n, ns[i]? = some n → y ≤ i → bytesBefore n.path p = false) ∧ wr = w) (fun a b _ => (intOf b).toNat - (intOf a).toNat)
 case atStart => exact ⟨0, ns.length, rfl, rfl, Nat.zero_le _, Nat.le_refl _, fun i n _ hi => absurd hi (Nat.not_lt_zero _), fun i n hi hle => (by rw [List.getElem?_eq_none hle] at hi; cases hi), rfl⟩
 case round =>
  obtain ⟨x, y, rfl, rfl, hxy, hyl, hlo, hhi, rfl⟩ := hrel
  by_cases hlt : x < y
  ·have k1 : (x : Int) < y := by omega
   obtain ⟨m, hm⟩ : ∃ m : Nat, m = (x + y) / 2 := ⟨_, rfl⟩
   have hmq : ((x : Int) + y) / 2 = m := by omega
   have hm1 : x ≤ m := by omega
   have hm2 : m < y := by omega
   obtain ⟨n, hn⟩ : ∃ n, ns[m]? = some n := ⟨_, List.getElem?_eq_getElem (by omega)⟩
   have d0 := h.c0 m n hn
   have hmt : ((x : Int) + y).tdiv 2 = m := by rw [Int.tdiv_eq_ediv_of_nonneg (by omega)]; exact hmq
   have hstep1 : bytesBefore n.path p = true → ∀ (i : Nat) n', ns[i]? = some n' → i < m + 1 → bytesBefore n'.path p = true := fun hb i n' hi him => by
    by_cases e : i = m
    ·subst e; rw [hn] at hi; cases hi; exact hb
    ·exact before_trans _ _ _ (srt_at hs hi hn (by omega)) hb
   have hstep2 : bytesBefore n.path p = false → ∀ (i : Nat) n', ns[i]? = some n' → m ≤ i → bytesBefore n'.path p = false := fun hb i n' hi him => by
    by_cases e : i = m
    ·subst e; rw [hn] at hi; cases hi; exact hb
    ·cases hc : bytesBefore n'.path p with
     | false => rfl
     | true => rw [before_trans _ _ _ (srt_at hs hn hi (by omega)) hc] at hb; cases hb
   have hlb : Op.bytesLess (mk n.path).toList (mk p).toList = bytesBefore n.path p := by rw [mk_toList, mk_toList, less_before]
   have H1 := hide' hstep1
   have H2 := hide' hstep2
   have HL := hide' hlo
   have HH := hide' hhi
   obtain ⟨np, hnp⟩ : ∃ np, np = n.path := ⟨_, rfl⟩
   rw [← hnp] at d0 hlb
   rw [← hnp] at H1 H2
   clear hstep1 hstep2 hlo hhi hs h hn hm hR hnp
   clear hlb
   go_wp2
   ·rename_i hx
    have hb : bytesBefore np p = true := by rw [← less_before]; simpa using hx
    exact ⟨⟨m + 1, y, by simp, rfl, by omega, hyl, H1.out hb, HH.out, trivial⟩, by simp [intOf]; omega⟩
   ·rename_i hx
    have hb : bytesBefore np p = false := by rw [← less_before]; simpa using hx
    exact ⟨⟨x, m, rfl, rfl, hm1, by omega, HL.out, H2.out hb, trivial⟩, by simp [intOf]; omega⟩
  ·obtain rfl : x = y := by omega
   have k1 : ¬ (x : Int) < x := by omega
   by_cases hxl : x < ns.length
   ·have k2 : (x : Int) < ns.length := by omega
    obtain ⟨n, hn⟩ : ∃ n, ns[x]? = some n := ⟨_, List.getElem?_eq_getElem hxl⟩
    have d0 := h.c0 x n hn
    have hno : n.path ≠ p → AtR ns p (-1) := fun hne => .inl ⟨rfl, at_none fun i n' hi e => by
     rcases Nat.lt_trichotomy i x with h1 | h1 | h1
     ·have := hlo i n' hi h1; rw [e, before_irrefl] at this; cases this
     ·subst h1; rw [hn] at hi; cases hi; exact hne e
     ·have h2 := srt_at hs hn hi h1
      rw [e, hhi x n hn (Nat.le_refl _)] at h2; cases h2⟩
    have HN := hide' hno
    clear hno hlo hhi hs h
    by_cases e : n.path = p
    ·have e1 : (n.path == p) = true := beq_iff_eq.2 e
     have hy : AtR ns p (x : Nat) := .inr ⟨x, n, rfl, hn, e⟩
     have HY := hide' hy
     rw [e] at d0
     clear hn hy
     go_wp2
     go_ret
     exact ⟨⟨_, rfl, HY.out⟩, rfl⟩
    ·have e1 : (n.path == p) = false := beq_eq_false_iff_ne.2 e
     have hy := HN.out e
     have HY := hide' hy
     clear hn hy
     go_wp2
     go_ret
     exact ⟨⟨_, rfl, HY.out⟩, rfl⟩
   ·have k2 : ¬ (x : Int) < ns.length := by omega
    have hno : AtR ns p (-1) := .inl ⟨rfl, at_none fun i n' hi e => by
     have hil := (List.getElem?_eq_some_iff.1 hi).1
     have := hlo i n' hi (by omega)
     rw [e, before_irrefl] at this; cases this⟩
    have HN := hide' hno
    clear hno hlo hhi hs h
    go_wp2
    go_ret
    exact ⟨⟨_, rfl, HN.out⟩, rfl⟩
set_option maxRecDepth 100000 in
set_option maxHeartbeats 2000000 in
theorem rat_nil (R : Nat) (a : Option Addr) (c : Nat) (clk rm : Int) (p : Bs) (w : World) (hR : Rb w R (.slice a 0 c) clk rm) :
  Calls Tryz.prog 25 #[.pointer (some ⟨R, 0, none⟩), .string (mk p)] w fun r w' => r = .returned (.int .i64 (-1)) ∧ w' = w := by
 have c0 : w.cell? ⟨R, 0, none⟩ = some (.slice a 0 c) := by unfold Rb at hR; rw [Lib.cell_of_heap hR]; rfl
 clear hR
 go_enter Tryz.func25, Tryz.ntmps25
 go_wp2
 go_loopw [5, 6] (fun x y wr => x = .int .i64 0 ∧ y = .int .i64 0 ∧ wr = w) (fun _ _ _ => 0)
 case atStart => exact ⟨rfl, rfl, rfl⟩
 case round =>
  obtain ⟨rfl, rfl, rfl⟩ := hrel
  go_wp2
  go_ret
  exact ⟨rfl, rfl⟩
theorem rat_any (R : Nat) (v : Value) (ns : List Nv) (clk rm : Int) (p : Bs) (w : World) (hR : Rb w R v clk rm) (h : Nodes w v ns) (hs : Srt (ns.map toE)) (hl : ns.length ≤ 1000) :
  Calls Tryz.prog 25 #[.pointer (some ⟨R, 0, none⟩), .string (mk p)] w fun r w' => (∃ x, r = .returned (.int .i64 x) ∧ AtR ns p x) ∧ w' = w := by
 rcases h with ⟨⟨a, c, rfl⟩, rfl⟩ | ⟨g, o, cap, rfl, h0, h1, h2⟩
 ·exact (rat_nil R a c clk rm p w hR).mono fun r w' ⟨hr, hw⟩ => ⟨⟨-1, hr, .inl ⟨rfl, rfl⟩⟩, hw⟩
 ·exact rat_row R g o cap ns clk rm p w hR h1 hs hl
end Go.Proofs.YtabmnkddmdffkaaGreatDoor
namespace Go.Proofs.YtabmnkddmdffkaaGreatDoor
open Go.RowKit Go.Shelf
def ne (L : List (List UInt8)) : List (List UInt8) := L.filter (fun x => !x.isEmpty)
theorem ne_snoc0 (L : List (List UInt8)) : ne (L ++ [[]]) = ne L := by simp [ne]
theorem ne_snoc (L : List (List UInt8)) (x : List UInt8) (h : x ≠ []) : ne (L ++ [x]) = ne L ++ [x] := by
 cases x with
 | nil => exact absurd rfl h
 | cons _ _ => simp [ne]
theorem ne_nms (l : List UInt8) : ne (cut l) = nms l := rfl
theorem ne_len (L : List (List UInt8)) : (ne L).length ≤ L.length := List.length_filter_le _ _
theorem pc_len (s : ByteArray) (a k : Nat) (hk : k ≤ s.size) : (pc (tl s) a k).length = k - a := by
 unfold pc
 rw [List.length_take, List.length_drop, tl_len]
 omega
theorem pc_ne (s : ByteArray) (a k : Nat) (ha : a < k) (hk : k ≤ s.size) : pc (tl s) a k ≠ [] := by
 intro e
 have := pc_len s a k hk
 rw [e] at this
 simp at this
 omega
theorem ni_one (s : ByteArray) (L : List (List UInt8)) (a k : Nat) (ha : a ≤ k) (h : k < s.size) (hb : ¬ s[k] = 47) (hI : NI (tl s) L a k) : NI (tl s) L a (k + 1) := by
 refine ni_other s L a k 1 ha ?_ hI
 rw [drop_at s k h]
 simp
 exact fun e => hb e.symm
def RN (s : ByteArray) (L : List (List UInt8)) (a k : Nat) : Prop := (k ≤ s.size ∧ a ≤ k ∧ ∃ L0, NI (tl s) L0 a k ∧ L = ne L0) ∨ (k = s.size + 1 ∧ L = nms (tl s))
theorem rn_start (s : ByteArray) : RN s [] 0 0 := .inl ⟨Nat.zero_le _, Nat.le_refl _, [], rfl, rfl⟩
theorem rn_other (s : ByteArray) (L : List (List UInt8)) (a k : Nat) (h : k < s.size) (hb : ¬ s[k] = 47) (hI : RN s L a k) : RN s L a (k + 1) := by
 rcases hI with ⟨_, ha, L0, hn, e⟩ | ⟨e, _⟩
 ·exact .inl ⟨by omega, by omega, L0, ni_one s L0 a k ha h hb hn, e⟩
 ·omega
theorem rn_slash (s : ByteArray) (L : List (List UInt8)) (a k : Nat) (ha : a < k) (h : k < s.size) (hb : s[k] = 47) (hI : RN s L a k) : RN s (L ++ [pc (tl s) a k]) (k + 1) (k + 1) := by
 rcases hI with ⟨_, _, L0, hn, e⟩ | ⟨e, _⟩
 ·exact .inl ⟨by omega, by omega, _, ni_slash s L0 a k h hb hn, by rw [ne_snoc _ _ (pc_ne s a k ha (by omega)), e]⟩
 ·omega
theorem rn_slash0 (s : ByteArray) (L : List (List UInt8)) (k : Nat) (h : k < s.size) (hb : s[k] = 47) (hI : RN s L k k) : RN s L (k + 1) (k + 1) := by
 rcases hI with ⟨_, _, L0, hn, e⟩ | ⟨e, _⟩
 ·refine .inl ⟨by omega, by omega, _, ni_slash s L0 k k h hb hn, ?_⟩
  rw [pc_self, ne_snoc0, e]
 ·omega
theorem rn_end (s : ByteArray) (L : List (List UInt8)) (a : Nat) (ha : a < s.size) (hI : RN s L a s.size) : L ++ [pc (tl s) a s.size] = nms (tl s) := by
 rcases hI with ⟨_, _, L0, hn, e⟩ | ⟨e, _⟩
 ·rw [e, ← ne_snoc _ _ (pc_ne s a s.size ha (by omega)), ni_end s L0 a hn, ne_nms]
 ·omega
theorem rn_end0 (s : ByteArray) (L : List (List UInt8)) (hI : RN s L s.size s.size) : L = nms (tl s) := by
 rcases hI with ⟨_, _, L0, hn, e⟩ | ⟨e, _⟩
 ·have := ni_end s L0 s.size hn
  rw [pc_self] at this
  rw [e, ← ne_snoc0, this, ne_nms]
 ·omega
theorem rn_a (s : ByteArray) (L : List (List UInt8)) (a k : Nat) (hk : k ≤ s.size) (hI : RN s L a k) : a ≤ k := by
 rcases hI with ⟨_, h, _⟩ | ⟨e, _⟩
 ·exact h
 ·omega
set_option maxRecDepth 100000 in
set_option maxHeartbeats 2000000 in
theorem rnames_any (s : ByteArray) (hs : s.size ≤ 500000) (w : World) :
  Calls Tryz.prog 53 #[.string s] w fun e W' => ∃ v : Value, e = .returned v ∧ Row W' w.heap.size v (nms (tl s)) ∧ Below w.heap.size w W' := by
 obtain ⟨i0, hi, hz0, hz1, hz2⟩ := info_parts info9
 go_enter Tryz.func53, Tryz.ntmps53
 go_wp2
 go_loopw [3, 4, 5] (fun o f i wr => ∃ (k a : Nat) (L : List (List UInt8)), k ≤ s.size + 1 ∧ a ≤ s.size + 1 ∧ L.length ≤ k ∧ f = .int .i64 a ∧ i = .int .i64 k ∧ Row wr w.heap.size o L ∧ Below w.heap.size w wr ∧ Hid (RN s L a k)) (fun _ _ i _ => s.size + 1 - (intOf i).toNat)
 case atStart => exact ⟨0, 0, [], Nat.zero_le _, Nat.zero_le _, Nat.le_refl _, rfl, rfl, World.ownsRow_nil _ _ _ _, Below.refl _ _, rn_start s⟩
 case round =>
  obtain ⟨k, a, L, hk, ha0, hL, rfl, rfl, hrow, hB, HI⟩ := hrel
  have hsz := hB.size
  have hpb : L.length + 1 ≤ maxLen := by unfold maxLen; omega
  have hbb : (L.length + 1) * 16 ≤ 140737488355328 := by omega
  have h2b : ∀ o, w.heap.size ≤ (wr.alloc o).heap.size := fun o => by simp; omega
  by_cases hlt : k < s.size
  ·have ha := rn_a s L a k (by omega) HI.out
   have hkn : ((k : Int) == (s.size : Int)) = false := beq_eq_false_iff_ne.2 (by omega)
   have hkd : (k : Int) ≤ s.size := by omega
   by_cases h47 : s[k] = 47
   ·have k1 := beq_yes s[k] 47 47 rfl h47
    by_cases hak : a < k
    ·have HI1 := hide' (rn_slash s L a k hak hlt h47 HI.out)
     clear HI h47
     go_wp2_with (at_builtin; refine wpList_append_own _ rfl _ _ 40 rfl w.heap.size 9 i0 (.string ⟨#[]⟩) 1 16 Tryz.underlying40 hi hz0 hz1 hz2 rfl (by decide) _ _ _ rfl (hrow.alloc _) ⟨wr.heap.size, 0, none⟩ 1 1 [.string (s.extract a k)] rfl rfl (cell_one_new _ _ _) (by simp [Value.oneCell']) hpb hbb (h2b _) ?_; intro v' w2 hown' hgrow hif; clear hif)
     exact ⟨⟨k + 1, k + 1, L ++ [pc (tl s) a k], by omega, by omega, by simp; omega, by go_num, by go_num, row_snoc (ext_mk s a k) hown', app_below hB (Nat.le_refl _) hsz hrow hgrow, HI1⟩, by simp [intOf]; omega⟩
    ·obtain rfl : a = k := by omega
     have HI1 := hide' (rn_slash0 s L a hlt h47 HI.out)
     clear HI h47 hpb hbb h2b
     go_wp2
     exact ⟨⟨a + 1, a + 1, L, by omega, by omega, by omega, by go_num, by go_num, hrow, hB, HI1⟩, by simp [intOf]; omega⟩
   ·have k1 := beq_no s[k] 47 47 rfl h47
    have HI1 := hide' (rn_other s L a k hlt h47 HI.out)
    clear HI h47 hpb hbb h2b
    go_wp2
    exact ⟨⟨k + 1, a, L, by omega, by omega, by omega, rfl, by go_num, hrow, hB, HI1⟩, by simp [intOf]; omega⟩
  ·by_cases hke : k = s.size
   ·subst hke
    have ha := rn_a s L a s.size (Nat.le_refl _) HI.out
    by_cases hak : a < s.size
    ·have HI1 : Hid (RN s (L ++ [pc (tl s) a s.size]) (s.size + 1) (s.size + 1)) := .inr ⟨rfl, rn_end s L a hak HI.out⟩
     clear HI
     go_wp2_with (at_builtin; refine wpList_append_own _ rfl _ _ 40 rfl w.heap.size 9 i0 (.string ⟨#[]⟩) 1 16 Tryz.underlying40 hi hz0 hz1 hz2 rfl (by decide) _ _ _ rfl (hrow.alloc _) ⟨wr.heap.size, 0, none⟩ 1 1 [.string (s.extract a s.size)] rfl rfl (cell_one_new _ _ _) (by simp [Value.oneCell']) hpb hbb (h2b _) ?_; intro v' w2 hown' hgrow hif; clear hif)
     exact ⟨⟨s.size + 1, s.size + 1, L ++ [pc (tl s) a s.size], by omega, by omega, by simp; omega, by go_num, by go_num, row_snoc (ext_mk s a s.size) hown', app_below hB (Nat.le_refl _) hsz hrow hgrow, HI1⟩, by simp [intOf]⟩
    ·obtain rfl : a = s.size := by omega
     have HI1 : Hid (RN s L (s.size + 1) (s.size + 1)) := .inr ⟨rfl, rn_end0 s L HI.out⟩
     clear HI hpb hbb h2b
     go_wp2
     exact ⟨⟨s.size + 1, s.size + 1, L, by omega, by omega, by omega, by go_num, by go_num, hrow, hB, HI1⟩, by simp [intOf]⟩
   ·obtain rfl : k = s.size + 1 := by omega
    have HF : Hid (L = nms (tl s)) := by
     rcases HI.out with ⟨h, _⟩ | ⟨_, h⟩
     ·omega
     ·exact h
    have hgt : ¬ ((s.size + 1 : Nat) : Int) ≤ s.size := by omega
    clear HI hpb hbb h2b
    go_wp2
    go_ret
    exact ⟨_, rfl, by rw [← HF.out]; exact hrow, hB⟩
end Go.Proofs.YtabmnkddmdffkaaGreatDoor
namespace Go.Proofs.YtabmnkddmdffkaaGreatDoor
open Go.RowKit Go.Shelf
theorem tl_append (a b : ByteArray) : tl (a ++ b) = tl a ++ tl b := by simp [tl]
theorem app_eq (a b s : ByteArray) (h : tl a ++ tl b = tl s) : a ++ b = s := tl_inj _ _ (by rw [tl_append]; exact h)
theorem slashed_nil (a : Option Addr) (cap : Nat) (w : World) :
  Calls Tryz.prog 54 #[.slice a 0 cap] w fun e w' => e = .returned (.string (mk [])) ∧ w' = w := by
 go_enter Tryz.func54, Tryz.ntmps54
 go_wp2
 go_loop [3, 4] (fun o i => o = .string ⟨#[]⟩ ∧ i = .int .i64 0) (fun _ _ => 0)
 case atStart => exact ⟨rfl, rfl⟩
 case round =>
  obtain ⟨rfl, rfl⟩ := hrel
  go_wp2
  go_ret
  exact ⟨rfl, rfl⟩
set_option maxRecDepth 100000 in
set_option maxHeartbeats 1000000 in
theorem slashed_some (K : List (List UInt8)) (b off cap : Nat) (w : World) (hc : ∀ j, j < K.length → w.cell? ⟨b, off + j, none⟩ = some (sv (K.getD j [])))
  (hj : tw K ≤ 1000000) :
  Calls Tryz.prog 54 #[.slice (some ⟨b, off, none⟩) K.length cap] w fun e w' => e = .returned (.string (mk (sl true K))) ∧ w' = w := by
 have hl : K.length ≤ 1000000 := Nat.le_trans (len_tw K) hj
 have HC := hide' hc
 clear hc
 go_enter Tryz.func54, Tryz.ntmps54
 go_wp2
 go_loop [3, 4] (fun o i => ∃ (k : Nat) (y : ByteArray), k ≤ K.length ∧ o = .string y ∧ i = .int .i64 k ∧ y.size ≤ 1000000 ∧ Hid (y = mk (sl true (K.take k)))) (fun _ i => K.length - (intOf i).toNat)
 case atStart => exact ⟨0, ⟨#[]⟩, Nat.zero_le _, rfl, rfl, Nat.zero_le _, rfl⟩
 case round =>
  obtain ⟨k, y, hk, rfl, rfl, hy, HY⟩ := hrel
  by_cases hlt : k < K.length
  ·have c1 := HC.out k hlt
   have hnx := sl_next K k hlt
   have hle := Nat.le_trans (sl_take_len K (k + 1)) hj
   generalize K.getD k [] = x at c1 hnx
   have hyl : y.size = (sl true (K.take k)).length := by rw [HY.out, mk_size]
   have hz := mk_size x
   by_cases h0 : k = 0
   ·rw [if_pos h0, List.nil_append] at hnx
    have HE : Hid (y ++ mk x = mk (sl true (K.take (k + 1)))) := app_eq _ _ _ (by rw [HY.out, tl_mk (sl true (K.take k)), tl_mk x, tl_mk (sl true (K.take (k + 1))), hnx])
    have hzz : y.size + x.length ≤ 1000000 := by rw [hnx, List.length_append] at hle; omega
    clear hnx hle hyl HY hz
    subst h0
    rw [Nat.add_zero] at c1
    go_wp2
    exact ⟨⟨1, y ++ mk x, by omega, rfl, by go_num, by rw [ByteArray.size_append, mk_size]; exact hzz, HE⟩, by simp [intOf]; omega⟩
   ·rw [if_neg h0] at hnx
    have HE : Hid (y ++ ⟨#[47]⟩ ++ mk x = mk (sl true (K.take (k + 1)))) := app_eq _ _ _ (by rw [tl_append, HY.out, tl_mk (sl true (K.take k)), tl_mk x, tl_mk (sl true (K.take (k + 1))), hnx, List.append_assoc]; rfl)
    have hzz : y.size + 1 + x.length ≤ 1000000 := by rw [hnx, List.length_append, List.length_append] at hle; simp at hle; omega
    have d0 : (0 : Int) < k := by omega
    have h1 : (y ++ (⟨#[47]⟩ : ByteArray)).size = y.size + 1 := by rw [ByteArray.size_append]; rfl
    clear hnx hle hyl HY hz h0
    go_wp2
    exact ⟨⟨k + 1, y ++ ⟨#[47]⟩ ++ mk x, by omega, rfl, by go_num, by rw [ByteArray.size_append, h1, mk_size]; exact hzz, HE⟩, by simp [intOf]; omega⟩
  ·have hke : K.take k = K := List.take_of_length_le (by omega)
   have HF : Hid (y = mk (sl true K)) := by show _ = _; rw [HY.out, hke]
   clear hke HY
   go_wp2
   go_ret
   exact ⟨ret_str HF.out, rfl⟩
theorem slashed_any (K : List (List UInt8)) (v : Value) (w : World) (h : Strs w v K) (hj : tw K ≤ 1000000) :
  Calls Tryz.prog 54 #[v] w fun e w' => e = .returned (.string (mk (sl true K))) ∧ w' = w := by
 rcases h with ⟨rfl, rfl⟩ | ⟨b, off, cap, rfl, h1, h2, h3, h4⟩
 ·exact slashed_nil none 0 w
 ·exact slashed_some K b off cap w h4 hj
theorem nms_tw (s : ByteArray) : (nms (tl s)).length ≤ s.size + 1 := by
 have h1 := ne_len (cut (tl s))
 have h2 := cut_len (tl s)
 rw [tl_len] at h2
 rw [ne_nms] at h1
 omega
theorem nms_ne (l : List UInt8) : ∀ x ∈ nms l, x ≠ [] := by
 intro x hx e
 subst e
 simp [nms] at hx
set_option maxRecDepth 100000 in
set_option maxHeartbeats 2000000 in
theorem rclean_any (s : ByteArray) (hs : s.size ≤ 400000) (w : World) :
  Calls Tryz.prog 33 #[.string s] w fun e W' => e = .returned (.string (mk (clean (tl s)))) ∧ Below w.heap.size w W' := by
 obtain ⟨i0, hi, hz0, hz1, hz2⟩ := info_parts info9
 have htw := kpt_tw' s (by omega)
 have HK : Hid (keep [] (nms (tl s)) = kpt (tl s)) := keep_nms _
 have HCl : Hid (sl true (kpt (tl s)) = clean (tl s)) := rfl
 have hKl := nms_tw s
 have HNE := hide' (nms_ne (tl s))
 go_enter Tryz.func33, Tryz.ntmps33
 go_wp2_with fail
 refine (rnames_any s (by omega) _).mono ?_
 rintro e w1 ⟨v1, rfl, hrow1, hB1⟩
 have hsz1 := hB1.size
 by_cases hnil : nms (tl s) = []
 ·rw [hnil] at hrow1 HK
  have hv : ∃ a c, v1 = .slice a 0 c := by
   rcases hrow1.2 with ⟨rfl, _⟩ | ⟨g, cap, cur, rfl, _⟩
   ·exact ⟨_, _, rfl⟩
   ·exact ⟨_, _, rfl⟩
  obtain ⟨a, c, rfl⟩ := hv
  have HF : Hid (mk [] = mk (clean (tl s))) := by show _ = _; rw [← HCl.out, ← HK.out]; rfl
  clear hrow1 HK hnil HNE hKl htw HCl
  go_wp2
  go_loopw [4, 5] (fun o i wr => o = .slice none 0 0 ∧ i = .int .i64 0 ∧ wr = w1) (fun _ _ _ => 0)
  case atStart => exact ⟨rfl, rfl, rfl⟩
  case round =>
   obtain ⟨rfl, rfl, rfl⟩ := hrel
   go_wp2_with fail
   refine (slashed_nil none 0 _).mono ?_
   rintro e w' ⟨rfl, rfl⟩
   go_wp2
   go_ret
   exact ⟨ret_str HF.out, hB1⟩
 ·obtain ⟨g, cap, rfl, hc1, hc2, hg, hcell, _⟩ := row_form hrow1 hnil
  clear hrow1 hnil
  generalize nms (tl s) = K at hKl hc1 hcell HK HNE
  have HC := hide' hcell
  clear hcell
  go_wp2
  go_loopw [4, 5] (fun o i wr => ∃ (k : Nat) (M : List (List UInt8)), k ≤ K.length ∧ i = .int .i64 k ∧ M.length ≤ k ∧ Row wr w1.heap.size o M ∧ Below w1.heap.size w1 wr ∧ Hid (M = keep [] (K.take k))) (fun _ i _ => K.length - (intOf i).toNat)
  case atStart => exact ⟨0, [], Nat.zero_le _, rfl, Nat.le_refl _, World.ownsRow_nil _ _ _ _, Below.refl _ _, rfl⟩
  case round =>
   obtain ⟨k, M, hk, rfl, hM, hrow, hB, HM⟩ := hrel
   have hsz := hB.size
   by_cases hlt : k < K.length
   ·have c1 := (hB.cell (p := ⟨g, k, none⟩) hg).trans (HC.out k hlt)
    have hnx := keep_next K k hlt
    have h1 : K.getD k [] ≠ [] := HNE.out _ (by rw [List.getD_eq_getElem?_getD, List.getElem?_eq_getElem hlt]; exact List.getElem_mem hlt)
    rw [← HM.out] at hnx
    generalize K.getD k [] = x at c1 hnx h1
    by_cases h2 : x = [46]
    ·subst h2
     rw [k_skip M [46] (.inr rfl)] at hnx
     have HN := hide' hnx
     clear hnx HM h1
     go_wp2
     exact ⟨⟨k + 1, M, by omega, by go_num, by omega, hrow, hB, HN.out.symm⟩, by simp [intOf]; omega⟩
    by_cases h3 : x = [46, 46]
    ·subst h3
     rw [k_back] at hnx
     have HN := hide' hnx
     clear hnx HM h1 h2
     by_cases hM0 : M = []
     ·subst hM0
      have hv : ∃ a c, u4 = .slice a 0 c := by
       rcases hrow.2 with ⟨rfl, _⟩ | ⟨g, cap, cur, rfl, _⟩
       ·exact ⟨_, _, rfl⟩
       ·exact ⟨_, _, rfl⟩
      obtain ⟨a, c, rfl⟩ := hv
      go_wp2
      exact ⟨⟨k + 1, [], by omega, by go_num, by simp, hrow, hB, HN.out.symm⟩, by simp [intOf]; omega⟩
     ·obtain ⟨g2, cap2, rfl, d1, d2, _, _, hrow2⟩ := row_form hrow hM0
      have hpos : 0 < M.length := List.length_pos_iff.2 hM0
      obtain ⟨m, hm⟩ : ∃ m, M.length = m + 1 := ⟨M.length - 1, by omega⟩
      unfold maxLen at d2
      rw [hm] at d1 hpos ⊢
      rw [hm, Nat.add_sub_cancel] at hrow2
      have HL : Hid (M.length = m + 1) := hm
      clear hrow hm
      have hdp : (0 : Int) < ((m + 1 : Nat) : Int) := by omega
      go_wp2
      exact ⟨⟨k + 1, M.dropLast, by omega, by go_num, by rw [List.length_dropLast]; omega, hrow2, hB, HN.out.symm⟩, by simp [intOf]; omega⟩
    ·rw [k_more M x h1 h2 h3] at hnx
     have HN := hide' hnx
     have hpb : M.length + 1 ≤ maxLen := by unfold maxLen; omega
     have hbb : (M.length + 1) * 16 ≤ 140737488355328 := by omega
     have h2b : ∀ o, w1.heap.size ≤ (wr.alloc o).heap.size := fun o => by simp; omega
     have j2 : (x == [46]) = false := beq_eq_false_iff_ne.2 h2
     have j3 : (x == [46, 46]) = false := beq_eq_false_iff_ne.2 h3
     clear hnx HM h1 h2 h3
     go_wp2_with (at_builtin; refine wpList_append_own _ rfl _ _ 40 rfl w1.heap.size 9 i0 (.string ⟨#[]⟩) 1 16 Tryz.underlying40 hi hz0 hz1 hz2 rfl (by decide) _ _ _ rfl (hrow.alloc _) ⟨wr.heap.size, 0, none⟩ 1 1 [sv x] rfl rfl (cell_one_new _ _ _) (by simp [Value.oneCell']) hpb hbb (h2b _) ?_; intro v' w2 hown' hgrow hif; clear hif)
     exact ⟨⟨k + 1, M ++ [x], by omega, by go_num, by simp; omega, row_snoc rfl hown', app_below hB (Nat.le_refl _) hsz hrow hgrow, HN.out.symm⟩, by simp [intOf]; omega⟩
   ·have hke : K.take k = K := List.take_of_length_le (by omega)
    have HF : Hid (M = kpt (tl s)) := by show _ = _; rw [HM.out, hke]; exact HK.out
    have hj := slashed_any M _ _ (Strs.of_row hrow) (by rw [HF.out]; exact htw)
    have HE : Hid (mk (sl true M) = mk (clean (tl s))) := by show _ = _; rw [HF.out, HCl.out]
    clear hke HM HK HF htw HCl
    go_wp2_with fail
    refine hj.mono ?_
    rintro e w' ⟨rfl, rfl⟩
    go_wp2
    go_ret
    exact ⟨ret_str HE.out, hB1.trans (hB.mono hsz1)⟩
end Go.Proofs.YtabmnkddmdffkaaGreatDoor
namespace Go.Proofs.YtabmnkddmdffkaaGreatDoor
open Go.RowKit Go.Shelf
theorem rkept_any (s : ByteArray) (hs : s.size ≤ 400000) (w : World) :
  Calls Tryz.prog 53 #[.string (mk (clean (tl s)))] w fun e W' => ∃ v : Value, e = .returned v ∧ Row W' w.heap.size v (kpt (tl s)) ∧ Below w.heap.size w W' := by
 have := rnames_any (mk (clean (tl s))) (clean_size s hs) w
 rwa [tl_mk (clean (tl s)), nms_clean] at this
set_option maxHeartbeats 400000 in
theorem rparent_any (s : ByteArray) (hs : s.size ≤ 400000) (w : World) :
  Calls Tryz.prog 24 #[.string s] w fun e w' => e = .returned (.string (mk (parent (tl s)))) ∧ Below w.heap.size w w' := by
 have ht := kpt_tw' s (by omega)
 have HP : Hid (parent (tl s) = sl true (kpt (tl s)).dropLast) := rfl
 have hc := rclean_any s hs
 have hk := rkept_any s hs
 generalize mk (clean (tl s)) = c at hc hk
 go_enter Tryz.func24, Tryz.ntmps24
 go_wp2_with fail
 refine (hc _).mono ?_
 rintro e w0 ⟨rfl, hB0⟩
 go_wp2_with fail
 refine (hk _).mono ?_
 rintro e w1 ⟨v, rfl, hrow, hB1⟩
 have hB := hB0.trans (hB1.mono hB0.size)
 clear hB0 hB1 hc hk
 by_cases h0 : kpt (tl s) = []
 ·rw [h0] at hrow HP
  have hv : ∃ a c, v = .slice a 0 c := by
   rcases hrow.2 with ⟨rfl, _⟩ | ⟨g, cap, cur, rfl, _⟩
   ·exact ⟨_, _, rfl⟩
   ·exact ⟨_, _, rfl⟩
  obtain ⟨a, c, rfl⟩ := hv
  clear h0 hrow ht
  go_wp2
  go_ret
  exact ⟨ret_str (by rw [HP.out]; rfl), hB⟩
 ·obtain ⟨g, cap, rfl, d1, d2, _, _, hrow2⟩ := row_form hrow h0
  have hpos : 0 < (kpt (tl s)).length := List.length_pos_iff.2 h0
  have ht2 : tw (kpt (tl s)).dropLast ≤ 1000000 := Nat.le_trans (tw_dropLast _) ht
  have hj := slashed_any _ _ _ (Strs.of_row hrow2) ht2
  rw [← HP.out] at hj
  generalize (kpt (tl s)).length = n at hpos d1 hj
  clear hrow hrow2 ht h0 ht2 HP
  unfold maxLen at d2
  obtain ⟨m, rfl⟩ : ∃ m, n = m + 1 := ⟨n - 1, by omega⟩
  rw [Nat.add_sub_cancel] at hj
  have hz : (((m + 1 : Nat) : Int) == 0) = false := beq_eq_false_iff_ne.2 (by omega)
  go_wp2_with fail
  refine hj.mono ?_
  rintro e w2 ⟨rfl, rfl⟩
  go_wp2
  go_ret
  exact ⟨rfl, hB⟩
set_option maxHeartbeats 400000 in
set_option maxHeartbeats 400000 in
theorem rindex_no (c : UInt8) (cn : Nat) (hcn : c.toNat = cn) (s : ByteArray) (w : World) (hs : s.size ≤ 1000000) (h : c ∉ tl s) :
  Calls Tryz.prog 39 #[.string s, .int .u8 cn] w fun e w' => e = .returned (.int .i64 (-1)) ∧ w' = w := by
 have HN : Hid (∀ k (h : k < s.size), ¬ s[k] = c) := fun k hk e => h (by rw [← e, ← getD_at s k hk, List.getD_eq_getElem?_getD, List.getElem?_eq_getElem (by rw [tl_len]; exact hk)]; exact List.getElem_mem _)
 clear h
 go_enter Tryz.func39, Tryz.ntmps39
 go_wp2
 go_loop [5] (fun i => ∃ k : Nat, k ≤ s.size ∧ i = .int .i64 k) (fun i => s.size - (intOf i).toNat)
 case atStart => exact ⟨0, Nat.zero_le _, rfl⟩
 case round =>
  obtain ⟨k, hk, rfl⟩ := hrel
  by_cases hlt : k < s.size
  ·have k1 := beq_no s[k] c cn hcn (HN.out k hlt)
   go_wp2
   exact ⟨⟨k + 1, by omega, by go_num⟩, by simp [intOf]; omega⟩
  ·go_wp2
   go_ret
   exact ⟨rfl, rfl⟩
set_option maxHeartbeats 400000 in
theorem rindex_yes (c : UInt8) (cn : Nat) (hcn : c.toNat = cn) (s : ByteArray) (w : World) (hs : s.size ≤ 1000000) (h : c ∈ tl s) :
  Calls Tryz.prog 39 #[.string s, .int .u8 cn] w fun e w' => (∃ k : Nat, e = .returned (.int .i64 k)) ∧ w' = w := by
 have HN : Hid (∃ k, ∃ h : k < s.size, s[k] = c) := by
  obtain ⟨k, hk, e⟩ := List.mem_iff_getElem.1 h
  exact ⟨k, by rw [tl_len] at hk; exact hk, e⟩
 clear h
 go_enter Tryz.func39, Tryz.ntmps39
 go_wp2
 go_loop [5] (fun i => ∃ k : Nat, k ≤ s.size ∧ i = .int .i64 k ∧ Hid (∃ j, ∃ h : j < s.size, s[j] = c ∧ k ≤ j)) (fun i => s.size - (intOf i).toNat)
 case atStart =>
  obtain ⟨k, h, e⟩ := HN.out
  exact ⟨0, Nat.zero_le _, rfl, k, h, e, Nat.zero_le _⟩
 case round =>
  obtain ⟨k, hk, rfl, HJ⟩ := hrel
  by_cases hlt : k < s.size
  ·by_cases h1 : s[k] = c
   ·have k1 := beq_yes s[k] c cn hcn h1
    clear h1 HJ HN
    go_wp2
    go_ret
    exact ⟨⟨k, rfl⟩, rfl⟩
   ·have k1 := beq_no s[k] c cn hcn h1
    have HJ' : Hid (∃ j, ∃ h : j < s.size, s[j] = c ∧ k + 1 ≤ j) := by
     obtain ⟨j, hj, e, h2⟩ := HJ.out
     refine ⟨j, hj, e, ?_⟩
     rcases Nat.lt_or_ge k j with h3 | h3
     ·exact h3
     ·obtain rfl : j = k := by omega
      exact absurd e h1
    clear h1 HJ HN
    go_wp2
    exact ⟨⟨k + 1, by omega, by go_num, HJ'⟩, by simp [intOf]; omega⟩
  ·obtain ⟨j, hj, _, h2⟩ := HJ.out
   omega
end Go.Proofs.YtabmnkddmdffkaaGreatDoor
namespace Go.Proofs.YtabmnkddmdffkaaGreatDoor
open Go.RowKit Go.Shelf
theorem nms_mem_len (s : ByteArray) (k : Nat) : ((nms (tl s)).getD k []).length ≤ s.size + 1 := by
 by_cases h : k < (nms (tl s)).length
 ·have hm : (nms (tl s)).getD k [] ∈ nms (tl s) := by rw [List.getD_eq_getElem?_getD, List.getElem?_eq_getElem h]; exact List.getElem_mem h
  have hm2 : (nms (tl s)).getD k [] ∈ cut (tl s) := (List.mem_filter.1 hm).1
  have := tw_mem _ _ hm2
  rw [cut_tw, tl_len] at this
  exact this
 ·rw [List.getD_eq_getElem?_getD, List.getElem?_eq_none (by omega)]
  exact Nat.zero_le _
theorem okn_long (x : List UInt8) (h : ¬ x.length ≤ 255) : okn x = false := by unfold okn; rw [decide_eq_false h]; rfl
theorem okn_zero (x : List UInt8) (h : 0 ∈ x) : okn x = false := by unfold okn; simp [h]
theorem okn_ten (x : List UInt8) (h : 10 ∈ x) : okn x = false := by unfold okn; simp [h]
theorem okn_ok (x : List UInt8) (h1 : x.length ≤ 255) (h2 : 0 ∉ x) (h3 : 10 ∉ x) : okn x = true := by unfold okn; simp [h1, h2, h3]
theorem rvalid_long (s : ByteArray) (w : World) (h : 1000 < s.size) (hs : s.size ≤ 1000000) :
  Calls Tryz.prog 23 #[.string s] w fun e w' => e = .returned (.bool (valid (tl s))) ∧ Below w.heap.size w w' := by
 have hv : valid (tl s) = false := by unfold valid; rw [tl_len, decide_eq_false (by omega)]; rfl
 rw [hv]
 have k1 : (1000 : Int) < s.size := by omega
 go_enter Tryz.func23, Tryz.ntmps23
 go_wp2
 go_ret
 exact ⟨rfl, Below.refl _ _⟩
set_option maxRecDepth 100000 in
set_option maxHeartbeats 2000000 in
theorem rvalid_short (s : ByteArray) (w : World) (h : s.size ≤ 1000) :
  Calls Tryz.prog 23 #[.string s] w fun e w' => e = .returned (.bool (valid (tl s))) ∧ Below w.heap.size w w' := by
 have k1 : ¬ (1000 : Int) < s.size := by omega
 have q0 := rclean_any s (by omega)
 by_cases hc : clean (tl s) = tl s
 ·have hv : valid (tl s) = (nms (tl s)).all okn := by rw [valid_nms, tl_len, decide_eq_true h, decide_eq_true hc]; rfl
  have HV := hide' hv
  rw [hc, mk_tl] at q0
  clear hv hc
  have HL := hide' (nms_mem_len s)
  have q1 := fun w => rnames_any s (by omega) w
  have hKl := nms_tw s
  go_enter Tryz.func23, Tryz.ntmps23
  go_wp2_with fail
  refine (q0 _).mono ?_
  rintro e w0 ⟨rfl, hB0⟩
  go_wp2_with fail
  refine (q1 _).mono ?_
  rintro e w1 ⟨v1, rfl, hrow1, hb1⟩
  have hB1 := hB0.trans (hb1.mono hB0.size)
  clear hB0 hb1 q0 q1
  by_cases hnil : nms (tl s) = []
  ·rw [hnil] at hrow1 HV
   have hvv : ∃ a c, v1 = .slice a 0 c := by
    rcases hrow1.2 with ⟨rfl, _⟩ | ⟨g, cap, cur, rfl, _⟩
    ·exact ⟨_, _, rfl⟩
    ·exact ⟨_, _, rfl⟩
   obtain ⟨a, c, rfl⟩ := hvv
   clear hrow1 hnil HL hKl
   go_wp2
   go_loopw [4] (fun i wr => i = .int .i64 0 ∧ wr = w1) (fun _ _ => 0)
   case atStart => exact ⟨rfl, rfl⟩
   case round =>
    obtain ⟨rfl, rfl⟩ := hrel
    go_wp2
    go_ret
    exact ⟨by rw [HV.out]; rfl, hB1⟩
  ·obtain ⟨g, cap, rfl, hc1, hc2, hg, hcell, _⟩ := row_form hrow1 hnil
   clear hrow1 hnil
   generalize nms (tl s) = K at hKl hc1 hcell HV HL
   have HC := hide' hcell
   clear hcell
   have hsz1 := hB1.size
   go_wp2
   go_loopw [4] (fun i wr => ∃ k : Nat, k ≤ K.length ∧ i = .int .i64 k ∧ wr = w1 ∧ Hid ((K.take k).all okn = true)) (fun i _ => K.length - (intOf i).toNat)
   case atStart => exact ⟨0, Nat.zero_le _, rfl, rfl, rfl⟩
   case round =>
    obtain ⟨k, hk, rfl, rfl, HA⟩ := hrel
    by_cases hlt : k < K.length
    ·have c1 := HC.out k hlt
     have hxl := HL.out k
     have hno := fun e => hide' (HV.out.trans (all_no K k hlt e))
     have hyes := fun e : okn (K.getD k []) = true => (show Hid ((K.take (k + 1)).all okn = true) by show _ = _; rw [all_take_next K k hlt, HA.out, e]; rfl)
     have HNO := hide' hno
     have HYES := hide' hyes
     clear HA hno hyes
     generalize K.getD k [] = x at c1 hxl HNO HYES
     have hmx := mk_size x
     by_cases h1 : x.length ≤ 255
     ·by_cases h2 : 0 ∈ x
      ·have q := fun w => rindex_yes 0 0 rfl (mk x) w (by omega) (by rw [tl_mk x]; exact h2)
       have HF := HNO.out (okn_zero x h2)
       have k2 : ¬ (255 : Int) < x.length := by omega
       clear HNO HYES h2 hmx
       go_wp2_with fail
       refine (q _).mono ?_
       rintro e w2 ⟨⟨n, rfl⟩, rfl⟩
       go_wp2
       go_ret
       exact ⟨by rw [HF.out]; rfl, hB1⟩
      ·have q := fun w => rindex_no 0 0 rfl (mk x) w (by omega) (by rw [tl_mk x]; exact h2)
       have k2 : ¬ (255 : Int) < x.length := by omega
       by_cases h3 : 10 ∈ x
       ·have q2 := fun w => rindex_yes 10 10 rfl (mk x) w (by omega) (by rw [tl_mk x]; exact h3)
        have HF := HNO.out (okn_ten x h3)
        clear HNO HYES h2 h3 hmx
        go_wp2_with fail
        refine (q _).mono ?_
        rintro e w2 ⟨rfl, hw2⟩
        subst hw2
        go_wp2_with fail
        refine (q2 _).mono ?_
        rintro e w3 ⟨⟨n, rfl⟩, hw3⟩
        subst hw3
        go_wp2
        go_ret
        exact ⟨by rw [HF.out]; rfl, hB1⟩
       ·have q2 := fun w => rindex_no 10 10 rfl (mk x) w (by omega) (by rw [tl_mk x]; exact h3)
        have HA1 := HYES.out (okn_ok x h1 h2 h3)
        clear HNO HYES h2 h3 hmx
        go_wp2_with fail
        refine (q _).mono ?_
        rintro e w2 ⟨rfl, hw2⟩
        subst hw2
        go_wp2_with fail
        refine (q2 _).mono ?_
        rintro e w3 ⟨rfl, hw3⟩
        subst hw3
        go_wp2
        exact ⟨⟨k + 1, by omega, by go_num, by trivial, HA1⟩, by simp [intOf]; omega⟩
     ·have HF := HNO.out (okn_long x h1)
      have k2 : (255 : Int) < x.length := by omega
      clear HNO HYES hmx h1
      go_wp2
      go_ret
      exact ⟨by rw [HF.out]; rfl, hB1⟩
    ·have hke : K.take k = K := List.take_of_length_le (by omega)
     have HF : Hid (valid (tl s) = true) := by show _ = _; rw [HV.out, ← hke]; exact HA.out
     clear hke HA
     go_wp2
     go_ret
     exact ⟨by rw [HF.out]; rfl, hB1⟩
 ·have hv : valid (tl s) = false := by unfold valid; rw [decide_eq_false hc, Bool.and_false, Bool.false_and]
  rw [hv]
  have hne : mk (clean (tl s)) ≠ s := fun e => hc (by rw [← tl_mk (clean (tl s)), e])
  have hn2 := list_ne _ _ hne
  generalize mk (clean (tl s)) = c at q0 hn2
  clear hv hne hc
  go_enter Tryz.func23, Tryz.ntmps23
  go_wp2_with fail
  refine (q0 _).mono ?_
  rintro e w0 ⟨rfl, hB0⟩
  go_wp2
  go_ret
  exact ⟨rfl, hB0⟩
theorem rvalid_any (s : ByteArray) (w : World) (hs : s.size ≤ 1000000) :
  Calls Tryz.prog 23 #[.string s] w fun e w' => e = .returned (.bool (valid (tl s))) ∧ Below w.heap.size w w' := by
 by_cases h : s.size ≤ 1000
 ·exact rvalid_short s w h
 ·exact rvalid_long s w (by omega) hs
end Go.Proofs.YtabmnkddmdffkaaGreatDoor
namespace Go.Proofs.YtabmnkddmdffkaaGreatDoor
open Go.RowKit Go.Maps
def Test (c : Value) (p : Prop) : Prop := ∃ b, c = .bool b ∧ (b = false ↔ p)
theorem up_iff {T : Tr} {clk : Int} (h : Gd T clk) (q : Bs) : upDirN (lookN T q) = true ↔ q = [] ∨ ∃ n, fnd T q = some n ∧ n.dir = true := by
 constructor
 ·exact upDirN_of
 ·rintro (rfl | ⟨n, hf, hd⟩)
  ·rfl
  ·have hv : valid q = true := (h.val _ (fnd_mem hf)).1
   unfold lookN
   rw [hv, if_pos rfl]
   show upDirN (lookP isd T q) = true
   rw [h.look _ _ (Nat.le_refl _) n hf]
   exact hd
structure Fair (clk : Int) (ah : Bs) (n : Nv) : Prop where
 val : valid n.path = true
 ne : n.path ≠ []
 up : bytesBefore ah n.path = true
 t0 : 0 ≤ n.nd.time
 t1 : n.nd.time ≤ clk
 dat : n.nd.dir = true → n.nd.data = []
theorem step_yes {T : Tr} {clk : Int} {ah : Bs} {n : Nv} (h : Gd T clk) (hf : Fair clk ah n) (hp : parent n.path = [] ∨ ∃ m, fnd T (parent n.path) = some m ∧ m.dir = true) : stepP clk (some (ah, T)) n = some (n.path, put T n.path n.nd) := by
 simp only [stepP]
 rw [if_pos]
 unfold fitN fitB1
 have hu := (up_iff h (parent n.path)).2 hp
 simp only [hf.up, hf.val, hu, Bool.true_and, Bool.and_true, Bool.and_eq_true, decide_eq_true_eq]
 refine ⟨hf.t0, hf.t1, ?_⟩
 cases hd : n.nd.dir with
 | false => rfl
 | true => simp [hf.dat hd]
theorem step_no {T : Tr} {clk : Int} {ah : Bs} {n : Nv} (h : Gd T clk) (hn : ¬ (Fair clk ah n ∧ (parent n.path = [] ∨ ∃ m, fnd T (parent n.path) = some m ∧ m.dir = true))) : stepP clk (some (ah, T)) n = none := by
 simp only [stepP]
 rw [if_neg]
 intro hc
 simp only [Bool.and_eq_true, fitN, fitB1, decide_eq_true_eq] at hc
 obtain ⟨hb, ⟨hv, ht0, ht1, hdd⟩, hu⟩ := hc
 refine hn ⟨⟨hv, fun e => ?_, hb, ht0, ht1, fun e => ?_⟩, (up_iff h _).1 hu⟩
 ·rw [e] at hb
  cases ah <;> simp [bytesBefore] at hb
 ·rw [e] at hdd
  simp at hdd
  exact hdd
def numR : Er ⊕ Tr → Nat
 | .inl k => k.num
 | .inr _ => 0
def RnAt (clk rm : Int) (w : World) (r : Ending) (w' : World) (o : Er ⊕ Tr) : Prop :=
 Below w.heap.size w w' ∧ match o with
 | .inl k => r = .returned (.tuple #[.pointer none, .int .i64 (k.num : Nat)])
 | .inr T => ∃ R v ms, r = .returned (.tuple #[.pointer (some ⟨R, 0, none⟩), .int .i64 0]) ∧ w.heap.size ≤ R ∧ Rb w' R v clk rm ∧ NsAt w' w.heap.size v ms ∧ ms.map toE = T
set_option maxRecDepth 100000 in
set_option maxHeartbeats 2000000 in
theorem rnew_much (a : Option Addr) (n cap : Nat) (hn : 1000 < n) (clk rm : Int) (w : World) :
  Calls Tryz.prog 8 #[.agg #[.slice a n cap, .int .i64 clk, .int .i64 rm]] w fun r w' => r = .returned (.tuple #[.pointer none, .int .i64 2]) ∧ Below w.heap.size w w' := by
 have k1 : (1000 : Int) < n := by omega
 go_enter Tryz.func8, Tryz.ntmps8
 go_wp2
 go_ret2
 exact ⟨rfl, (Below.refl _ _).alloc (Nat.le_refl _) _⟩
end Go.Proofs.YtabmnkddmdffkaaGreatDoor
