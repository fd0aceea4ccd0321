/- The contracts of anvilref5.weight and (*anvilref5.FS).at. -/
import Derived.Test.YtpbfhbnkalambaaGreatDoorZy
namespace Go.Proofs.YtpbfhbnkalambaaGreatDoor
open Go.RowKit Go.Maps

def dsum : List Nv → Nat
  | [] => 0
  | n :: r => n.nd.data.length + dsum r
theorem dsum_snoc (l : List Nv) (n : Nv) : dsum (l ++ [n]) = dsum l + n.nd.data.length := by
  induction l with
  | nil => simp [dsum]
  | cons x r ih => simp only [List.cons_append, dsum, ih]; omega
theorem dsum_weight (ns : List Nv) : weight (ns.map toE) = ns.length + dsum ns := by
  unfold weight
  induction ns with
  | nil => rfl
  | cons n r ih =>
    simp only [List.map_cons, sumOf, ih, List.length_cons, dsum, toE, Nd.wt]
    omega
theorem dsum_le (ns : List Nv) (h : ∀ n ∈ ns, n.nd.data.length ≤ 65536) : dsum ns ≤ ns.length * 65536 := by
  induction ns with
  | nil => simp [dsum]
  | cons n r ih =>
    have h1 := h n List.mem_cons_self
    have h2 := ih fun m hm => h m (List.mem_cons_of_mem _ hm)
    simp only [dsum, List.length_cons]
    omega
theorem dsum_take {ns : List Nv} {k : Nat} {n : Nv} (hn : ns[k]? = some n) : dsum (ns.take (k + 1)) = dsum (ns.take k) + n.nd.data.length := by
  rw [List.take_add_one, hn]
  exact dsum_snoc _ _
set_option maxRecDepth 100000 in
set_option maxHeartbeats 2000000 in
theorem rweight_row (g o cap : Nat) (ns : List Nv) (w : World) (h : NRow w g o ns) (hr : ∀ n ∈ ns, Rds w n.dv n.nd.data) (hl : ns.length ≤ 1000) (hd : ∀ n ∈ ns, n.nd.data.length ≤ 65536) :
    Calls Tryz.prog 34 #[.slice (some ⟨g, o, none⟩) ns.length cap] w fun r w' => r = .returned (.int .i64 (weight (ns.map toE) : Nat)) ∧ w' = w := by
  go_enter Tryz.func34, Tryz.ntmps34
  go_wp2
  go_loopw [3, 4] (fun s i wr => ∃ k t : Nat, k ≤ ns.length ∧ i = .int .i64 k ∧ s = .int .i64 t ∧ t = ns.length + dsum (ns.take k) ∧ wr = w) (fun _ i _ => ns.length - (intOf i).toNat)
  case atStart => exact ⟨0, ns.length, by omega, rfl, rfl, by simp [dsum], rfl⟩
  case round =>
    obtain ⟨k, t, hk, rfl, rfl, ht, rfl⟩ := hrel
    by_cases hkl : k < ns.length
    · have k1 : (k : Int) < ns.length := by omega
      obtain ⟨n, hn⟩ : ∃ n, ns[k]? = some n := ⟨_, List.getElem?_eq_getElem hkl⟩
      have d3 := h.c3 k n hn
      have hmem := List.mem_of_getElem? hn
      obtain ⟨da, dc, hdv⟩ := (hr n hmem).len
      rw [hdv] at d3
      have hb1 := hd n hmem
      have hb2 := dsum_le (ns.take k) fun m hm => hd m (List.mem_of_mem_take hm)
      rw [List.length_take] at hb2
      have hb3 : min k ns.length * 65536 ≤ 1000 * 65536 := Nat.mul_le_mul_right _ (by omega)
      have hb4 : t ≤ 100000000 := by omega
      have hst : t + n.nd.data.length = ns.length + dsum (ns.take (k + 1)) := by rw [dsum_take hn]; omega
      have HS := hide' hst
      generalize n.nd.data.length = dl at *
      clear h hr hd hn hmem ht hst hb2 hb3
      go_wp2
      exact ⟨⟨k + 1, t + dl, by omega, by simp, by simp, HS.out, trivial⟩, by simp [intOf]; omega⟩
    · obtain rfl : k = ns.length := by omega
      have k1 : ¬ (ns.length : Int) < ns.length := by omega
      rw [List.take_length, ← dsum_weight] at ht
      subst ht
      go_wp2
      go_ret
      exact ⟨rfl, rfl⟩
/-- weight -/
theorem rweight_any (v : Value) (ns : List Nv) (w : World) (h : Nodes w v ns) (hl : ns.length ≤ 1000) (hd : ∀ n ∈ ns, n.nd.data.length ≤ 65536) :
    Calls Tryz.prog 34 #[v] w fun r w' => r = .returned (.int .i64 (weight (ns.map toE) : Nat)) ∧ w' = w := by
  rcases h with ⟨⟨a, c, rfl⟩, rfl⟩ | ⟨g, o, cap, rfl, h0, h1, h2⟩
  · go_enter Tryz.func34, Tryz.ntmps34
    go_wp2
    go_loopw [3, 4] (fun s i wr => i = .int .i64 0 ∧ s = .int .i64 0 ∧ wr = w) (fun _ _ _ => 0)
    case atStart => exact ⟨rfl, rfl, rfl⟩
    case round =>
      obtain ⟨rfl, rfl, rfl⟩ := hrel
      go_wp2
      go_ret
      exact ⟨rfl, rfl⟩
  · exact rweight_row g o cap ns w h1 h2 hl hd

/-- a file system of the reference -/
def Rb (w : World) (R : Nat) (v : Value) (clk rm : Int) : Prop := w.heap[R]? = some (.cells #[v, .int .i64 clk, .int .i64 rm] 61 (0, 0))
/-- the place of a path -/
def AtR (ns : List Nv) (p : Bs) (r : Int) : Prop := (r = -1 ∧ fnd (ns.map toE) p = none) ∨ ∃ k n, r = (k : Nat) ∧ ns[k]? = some n ∧ n.path = p
theorem srt_at {ns : List Nv} (h : Srt (ns.map toE)) {i j : Nat} {a b : Nv} (ha : ns[i]? = some a) (hb : ns[j]? = some b) (hij : i < j) : bytesBefore a.path b.path = true := by
  unfold Srt at h
  rw [List.pairwise_iff_getElem] at h
  obtain ⟨l1, g1⟩ := List.getElem?_eq_some_iff.1 ha
  obtain ⟨l2, g2⟩ := List.getElem?_eq_some_iff.1 hb
  have := h i j (by simpa using l1) (by simpa using l2) hij
  simpa [g1, g2, toE] using this
theorem at_none {ns : List Nv} {p : Bs} (h : ∀ (i : Nat) n, ns[i]? = some n → n.path ≠ p) : fnd (ns.map toE) p = none := by
  refine fnd_none_of fun e he => ?_
  obtain ⟨n, hn, rfl⟩ := List.mem_map.1 he
  obtain ⟨i, hi⟩ := List.getElem?_of_mem hn
  exact h i n hi
set_option maxRecDepth 100000 in
set_option maxHeartbeats 4000000 in
theorem rat_row (R g o cap : Nat) (ns : List Nv) (clk rm : Int) (p : Bs) (w : World) (hR : Rb w R (.slice (some ⟨g, o, none⟩) ns.length cap) clk rm) (h : NRow w g o ns) (hs : Srt (ns.map toE)) (hl : ns.length ≤ 1000) :
    Calls Tryz.prog 33 #[.pointer (some ⟨R, 0, none⟩), .string (mk p)] w fun r w' => (∃ x, r = .returned (.int .i64 x) ∧ AtR ns p x) ∧ w' = w := by
  have c0 : w.cell? ⟨R, 0, none⟩ = some (.slice (some ⟨g, o, none⟩) ns.length cap) := by unfold Rb at hR; rw [Lib.cell_of_heap hR]; rfl
  go_enter Tryz.func33, Tryz.ntmps33
  go_wp2
  go_loopw [5, 6] (fun a b wr => ∃ x y : Nat, a = .int .i64 x ∧ b = .int .i64 y ∧ x ≤ y ∧ y ≤ ns.length ∧ (∀ (i : Nat) n, ns[i]? = some n → i < x → bytesBefore n.path p = true) ∧ (∀ (i : Nat) n, ns[i]? = some n → y ≤ i → bytesBefore n.path p = false) ∧ wr = w) (fun a b _ => (intOf b).toNat - (intOf a).toNat)
  case atStart => exact ⟨0, ns.length, rfl, rfl, Nat.zero_le _, Nat.le_refl _, fun i n _ hi => absurd hi (Nat.not_lt_zero _), fun i n hi hle => (by rw [List.getElem?_eq_none hle] at hi; cases hi), rfl⟩
  case round =>
    obtain ⟨x, y, rfl, rfl, hxy, hyl, hlo, hhi, rfl⟩ := hrel
    by_cases hlt : x < y
    · have k1 : (x : Int) < y := by omega
      obtain ⟨m, hm⟩ : ∃ m : Nat, m = (x + y) / 2 := ⟨_, rfl⟩
      have hmq : ((x : Int) + y) / 2 = m := by omega
      have hm1 : x ≤ m := by omega
      have hm2 : m < y := by omega
      obtain ⟨n, hn⟩ : ∃ n, ns[m]? = some n := ⟨_, List.getElem?_eq_getElem (by omega)⟩
      have d0 := h.c0 m n hn
      have hmt : ((x : Int) + y).tdiv 2 = m := by rw [Int.tdiv_eq_ediv_of_nonneg (by omega)]; exact hmq
      have hstep1 : bytesBefore n.path p = true → ∀ (i : Nat) n', ns[i]? = some n' → i < m + 1 → bytesBefore n'.path p = true := fun hb i n' hi him => by
        by_cases e : i = m
        · subst e; rw [hn] at hi; cases hi; exact hb
        · exact before_trans _ _ _ (srt_at hs hi hn (by omega)) hb
      have hstep2 : bytesBefore n.path p = false → ∀ (i : Nat) n', ns[i]? = some n' → m ≤ i → bytesBefore n'.path p = false := fun hb i n' hi him => by
        by_cases e : i = m
        · subst e; rw [hn] at hi; cases hi; exact hb
        · cases hc : bytesBefore n'.path p with
          | false => rfl
          | true => rw [before_trans _ _ _ (srt_at hs hn hi (by omega)) hc] at hb; cases hb
      have hlb : Op.bytesLess (mk n.path).toList (mk p).toList = bytesBefore n.path p := by rw [mk_toList, mk_toList, less_before]
      have H1 := hide' hstep1
      have H2 := hide' hstep2
      have HL := hide' hlo
      have HH := hide' hhi
      obtain ⟨np, hnp⟩ : ∃ np, np = n.path := ⟨_, rfl⟩
      rw [← hnp] at d0 hlb
      rw [← hnp] at H1 H2
      clear hstep1 hstep2 hlo hhi hs h hn hm hR hnp
      clear hlb
      go_wp2
      · rename_i hx
        have hb : bytesBefore np p = true := by rw [← less_before]; simpa using hx
        exact ⟨⟨m + 1, y, by simp, rfl, by omega, hyl, H1.out hb, HH.out, trivial⟩, by simp [intOf]; omega⟩
      · rename_i hx
        have hb : bytesBefore np p = false := by rw [← less_before]; simpa using hx
        exact ⟨⟨x, m, rfl, rfl, hm1, by omega, HL.out, H2.out hb, trivial⟩, by simp [intOf]; omega⟩
    · obtain rfl : x = y := by omega
      have k1 : ¬ (x : Int) < x := by omega
      by_cases hxl : x < ns.length
      · have k2 : (x : Int) < ns.length := by omega
        obtain ⟨n, hn⟩ : ∃ n, ns[x]? = some n := ⟨_, List.getElem?_eq_getElem hxl⟩
        have d0 := h.c0 x n hn
        have hno : n.path ≠ p → AtR ns p (-1) := fun hne => .inl ⟨rfl, at_none fun i n' hi e => by
          rcases Nat.lt_trichotomy i x with h1 | h1 | h1
          · have := hlo i n' hi h1; rw [e, before_irrefl] at this; cases this
          · subst h1; rw [hn] at hi; cases hi; exact hne e
          · have h2 := srt_at hs hn hi h1
            rw [e, hhi x n hn (Nat.le_refl _)] at h2; cases h2⟩
        have HN := hide' hno
        clear hno hlo hhi hs h
        by_cases e : n.path = p
        · have e1 : (n.path == p) = true := beq_iff_eq.2 e
          have hy : AtR ns p (x : Nat) := .inr ⟨x, n, rfl, hn, e⟩
          have HY := hide' hy
          rw [e] at d0
          clear hn hy
          go_wp2
          go_ret
          exact ⟨⟨_, rfl, HY.out⟩, rfl⟩
        · have e1 : (n.path == p) = false := beq_eq_false_iff_ne.2 e
          have hy := HN.out e
          have HY := hide' hy
          clear hn hy
          go_wp2
          go_ret
          exact ⟨⟨_, rfl, HY.out⟩, rfl⟩
      · have k2 : ¬ (x : Int) < ns.length := by omega
        have hno : AtR ns p (-1) := .inl ⟨rfl, at_none fun i n' hi e => by
          have hil := (List.getElem?_eq_some_iff.1 hi).1
          have := hlo i n' hi (by omega)
          rw [e, before_irrefl] at this; cases this⟩
        have HN := hide' hno
        clear hno hlo hhi hs h
        go_wp2
        go_ret
        exact ⟨⟨_, rfl, HN.out⟩, rfl⟩
set_option maxRecDepth 100000 in
set_option maxHeartbeats 2000000 in
theorem rat_nil (R : Nat) (a : Option Addr) (c : Nat) (clk rm : Int) (p : Bs) (w : World) (hR : Rb w R (.slice a 0 c) clk rm) :
    Calls Tryz.prog 33 #[.pointer (some ⟨R, 0, none⟩), .string (mk p)] w fun r w' => r = .returned (.int .i64 (-1)) ∧ w' = w := by
  have c0 : w.cell? ⟨R, 0, none⟩ = some (.slice a 0 c) := by unfold Rb at hR; rw [Lib.cell_of_heap hR]; rfl
  clear hR
  go_enter Tryz.func33, Tryz.ntmps33
  go_wp2
  go_loopw [5, 6] (fun x y wr => x = .int .i64 0 ∧ y = .int .i64 0 ∧ wr = w) (fun _ _ _ => 0)
  case atStart => exact ⟨rfl, rfl, rfl⟩
  case round =>
    obtain ⟨rfl, rfl, rfl⟩ := hrel
    go_wp2
    go_ret
    exact ⟨rfl, rfl⟩
/-- at -/
theorem rat_any (R : Nat) (v : Value) (ns : List Nv) (clk rm : Int) (p : Bs) (w : World) (hR : Rb w R v clk rm) (h : Nodes w v ns) (hs : Srt (ns.map toE)) (hl : ns.length ≤ 1000) :
    Calls Tryz.prog 33 #[.pointer (some ⟨R, 0, none⟩), .string (mk p)] w fun r w' => (∃ x, r = .returned (.int .i64 x) ∧ AtR ns p x) ∧ w' = w := by
  rcases h with ⟨⟨a, c, rfl⟩, rfl⟩ | ⟨g, o, cap, rfl, h0, h1, h2⟩
  · exact (rat_nil R a c clk rm p w hR).mono fun r w' ⟨hr, hw⟩ => ⟨⟨-1, hr, .inl ⟨rfl, rfl⟩⟩, hw⟩
  · exact rat_row R g o cap ns clk rm p w hR h1 hs hl
end Go.Proofs.YtpbfhbnkalambaaGreatDoor
