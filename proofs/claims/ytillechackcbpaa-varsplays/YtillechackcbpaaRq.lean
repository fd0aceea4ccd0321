/- The reference's store in memory; the contract of its at. -/
import Derived.Test.YtillechackcbpaaList
import Derived.Deep.QuietTactic
import Derived.Deep.AppendSrc
import Derived.Lib.BufferWrite
namespace Go.Proofs.Ytillechackcbpaa
open Go.RowKit Go.Maps

theorem ins_at {α : Type} (p : Bs) (x : α) : ∀ (L : List (Bs × α)) (k : Nat), k ≤ L.length → (∀ (i : Nat) e, L[i]? = some e → i < k → bytesBefore e.1 p = true) → (∀ (i : Nat) e, L[i]? = some e → i = k → bytesBefore p e.1 = true) → ins (p, x) L = L.take k ++ (p, x) :: L.drop k
  | [], k, hk, _, _ => by
    obtain rfl : k = 0 := by simpa using hk
    rfl
  | y :: r, 0, _, _, h2 => by
    unfold ins
    rw [if_pos (h2 0 y rfl rfl)]
    rfl
  | y :: r, k + 1, hk, h1, h2 => by
    have hb : ¬ bytesBefore p y.1 = true := by rw [before_asymm (h1 0 y rfl (Nat.succ_pos _))]; simp
    unfold ins
    rw [if_neg hb, ins_at p x r k (by simpa using hk) (fun i e hi hlt => h1 (i + 1) e (by simpa using hi) (by omega)) (fun i e hi hlt => h2 (i + 1) e (by simpa using hi) (by omega))]
    rfl
theorem put_at {α : Type} {L : List (Bs × α)} {p : Bs} (x : α) {k : Nat} (hf : fnd L p = none) (hk : k ≤ L.length) (h1 : ∀ (i : Nat) e, L[i]? = some e → i < k → bytesBefore e.1 p = true) (h2 : ∀ (i : Nat) e, L[i]? = some e → i = k → bytesBefore e.1 p = false) : put L p x = L.take k ++ (p, x) :: L.drop k := by
  unfold put
  rw [del_none hf]
  refine ins_at p x L k hk h1 fun i e hi hik => ?_
  have hb := h2 i e hi hik
  rcases before_total e.1 p with h | h | h
  · rw [hb] at h; cases h
  · exact absurd h (fnd_none hf e (List.mem_of_getElem? hi))
  · exact h
theorem del_at {α : Type} : ∀ {L : List (Bs × α)}, Srt L → ∀ {k : Nat} {e : Bs × α}, L[k]? = some e → del L e.1 = L.take k ++ L.drop (k + 1)
  | [], _, k, e, hk => by simp at hk
  | y :: r, h, 0, e, hk => by
    obtain rfl : y = e := by simpa using hk
    obtain ⟨h1, h2⟩ := List.pairwise_cons.1 h
    unfold del
    rw [List.filter_cons, if_neg (by simp)]
    show del r y.1 = r
    exact del_none (fnd_none_of fun q hq e2 => before_ne (h1 q hq) e2.symm)
  | y :: r, h, k + 1, e, hk => by
    obtain ⟨h1, h2⟩ := List.pairwise_cons.1 h
    have hr : r[k]? = some e := by simpa using hk
    have hne : y.1 ≠ e.1 := before_ne (h1 e (List.mem_of_getElem? hr))
    have hd : del (y :: r) e.1 = y :: del r e.1 := by
      unfold del
      rw [List.filter_cons, if_pos (by simp [hne])]
    rw [hd, del_at h2 hr]
    rfl
theorem put_set {α : Type} {L : List (Bs × α)} (h : Srt L) {k : Nat} {e : Bs × α} (hk : L[k]? = some e) (x : α) : put L e.1 x = L.set k (e.1, x) := by
  have hl : k < L.length := (List.getElem?_eq_some_iff.1 hk).1
  unfold put
  rw [del_at h hk]
  have hlt : (L.take k).length = k := by rw [List.length_take]; omega
  have hp := List.pairwise_iff_getElem.1 h
  have hek : L[k] = e := (List.getElem?_eq_some_iff.1 hk).2
  rw [ins_at e.1 x _ k (by rw [List.length_append, hlt]; omega)]
  · have h1 : (L.take k ++ L.drop (k + 1)).take k = L.take k := List.take_left' hlt
    have h2 : (L.take k ++ L.drop (k + 1)).drop k = L.drop (k + 1) := List.drop_left' hlt
    rw [h1, h2, List.set_eq_take_append_cons_drop, if_pos hl]
  · intro i y hi hik
    rw [List.getElem?_append_left (by omega), List.getElem?_take_of_lt hik] at hi
    obtain ⟨h1, h2⟩ := List.getElem?_eq_some_iff.1 hi
    have := hp i k h1 hl hik
    rw [h2, hek] at this
    exact this
  · intro i y hi hik
    subst hik
    rw [List.getElem?_append_right (by omega), hlt, Nat.sub_self, List.getElem?_drop] at hi
    obtain ⟨h1, h2⟩ := List.getElem?_eq_some_iff.1 hi
    have := hp i (i + 1 + 0) hl h1 (by omega)
    rw [hek, h2] at this
    exact this

theorem mk_toList (l : Bs) : (mk l).toList = l := by
  rw [Lib.toList_data]
theorem less_before : ∀ x y : Bs, Op.bytesLess x y = bytesBefore x y
  | [], [] => by simp [Op.bytesLess, bytesBefore]
  | _ :: _, [] => by simp [Op.bytesLess, bytesBefore]
  | [], _ :: _ => by simp [Op.bytesLess, bytesBefore]
  | x :: r, y :: s => by simp [Op.bytesLess, bytesBefore, less_before r s]
/-- a row of variables of one's own -/
def VOwn (w : World) (v : Value) (vs : List Vr) : Prop :=
  (v = .slice none 0 0 ∧ vs = []) ∨ ∃ g cap cur, v = .slice (some ⟨g, 0, none⟩) vs.length cap ∧ w.heap[g]? = some (.cells cur 36 (0, 0)) ∧ vs.length ≤ cap ∧ cap * 5 ≤ cur.size ∧ cur.toList.take (vs.length * 5) = flatV vs
theorem cell_row {w : World} {g : Nat} {cur : Array Value} {T : TypeId} {ns : List Vr} (hg : w.heap[g]? = some (.cells cur T (0, 0))) (ht : cur.toList.take (ns.length * 5) = flatV ns) {i r : Nat} {n : Vr} {u : Value} (hn : ns[i]? = some n) (hr : r < 5) (hu : (cellsV n)[r]? = some u) :
    w.cell? ⟨g, i * 5 + r, none⟩ = some u := by
  rw [Lib.cell_of_heap hg]
  have hil : i < ns.length := (List.getElem?_eq_some_iff.1 hn).1
  have h1 := flat_at ns i r n hn hr
  rw [← ht, List.getElem?_take_of_lt (by omega), hu] at h1
  simpa using h1
theorem VOwn.kept {w w' : World} {v : Value} {ns : List Vr} (h : VOwn w v ns) (hk : ∀ g, v.ownBlock = some g → w'.heap[g]? = w.heap[g]?) : VOwn w' v ns := by
  rcases h with h | ⟨g, cap, cur, rfl, hg, r⟩
  · exact .inl h
  · exact .inr ⟨g, cap, cur, rfl, (hk g rfl).trans hg, r⟩
theorem VOwn.lt {w : World} {v : Value} {ns : List Vr} (h : VOwn w v ns) : ∀ g, v.ownBlock = some g → g < w.heap.size := by
  intro g hg
  rcases h with ⟨rfl, _⟩ | ⟨g', cap, cur, rfl, hb, r⟩
  · cases hg
  · cases hg; exact lt_of_block hb
theorem VOwn.elem {w : World} {v : Value} {ns : List Vr} (h : VOwn w v ns) : ∀ g, v.ownBlock = some g → ∃ cur, w.heap[g]? = some (.cells cur 36 (0, 0)) := by
  intro g hg
  rcases h with ⟨rfl, _⟩ | ⟨g', cap, cur, rfl, hb, r⟩
  · cases hg
  · cases hg; exact ⟨_, hb⟩
theorem VOwn.len {w : World} {v : Value} {ns : List Vr} (h : VOwn w v ns) : ∃ a cap, v = .slice a ns.length cap := by
  rcases h with ⟨rfl, rfl⟩ | ⟨g', cap, cur, rfl, hb, r⟩
  · exact ⟨_, _, rfl⟩
  · exact ⟨_, _, rfl⟩
/-- the reference's store of the variables L -/
def Rb (w : World) (R : Nat) (v : Value) : Prop := w.heap[R]? = some (.cells #[v] 30 (0, 0))
theorem Rb.c0 {w : World} {R : Nat} {v : Value} (h : Rb w R v) : w.cell? ⟨R, 0, none⟩ = some v := by unfold Rb at h; rw [Lib.cell_of_heap h]; rfl
structure Rf (w : World) (R : Nat) (v : Value) (L : Vs) : Prop where
  rb : Rb w R v
  row : VOwn w v (L.map (·.2))
  srt : Srt L
  nm : ∀ e ∈ L, e.2.name = e.1
  cnt : L.length ≤ 1000
theorem Rf.keep {w w' : World} {R : Nat} {v : Value} {L : Vs} (h : Rf w R v L) (hR : w'.heap[R]? = w.heap[R]?) (hv : ∀ g, v.ownBlock = some g → w'.heap[g]? = w.heap[g]?) : Rf w' R v L :=
  ⟨hR.trans h.rb, h.row.kept hv, h.srt, h.nm, h.cnt⟩
theorem Rf.below {w w' : World} {R : Nat} {v : Value} {L : Vs} (h : Rf w R v L) (hb : Below w.heap.size w w') : Rf w' R v L :=
  h.keep (hb.block R (lt_of_block h.rb)) fun g hg => hb.block g (h.row.lt g hg)
theorem Rf.ne {w : World} {R : Nat} {v : Value} {L : Vs} (h : Rf w R v L) : ∀ g, v.ownBlock = some g → g ≠ R := by
  intro g hg e
  obtain ⟨cur, hc⟩ := h.row.elem g hg
  have := h.rb
  unfold Rb at this
  rw [e, this] at hc
  simp at hc
/-- the place of a name -/
structure AtK (L : Vs) (p : Bs) (k : Nat) : Prop where
  le : k ≤ L.length
  lo : ∀ (i : Nat) e, L[i]? = some e → i < k → bytesBefore e.1 p = true
  hi : ∀ (i : Nat) e, L[i]? = some e → k ≤ i → bytesBefore e.1 p = false
theorem AtK.found {L : Vs} {p : Bs} {k : Nat} (h : AtK L p k) {x : Vr} (hf : fnd L p = some x) (hs : Srt L) : L[k]? = some (p, x) := by
  obtain ⟨i, hi⟩ := List.getElem?_of_mem (fnd_mem hf)
  have h1 : ¬ i < k := fun hlt => by have := h.lo i _ hi hlt; rw [before_irrefl] at this; cases this
  by_cases e : i = k
  · rw [← e]; exact hi
  · have hk : k < L.length := by have := (List.getElem?_eq_some_iff.1 hi).1; omega
    have h2 := h.hi k _ (List.getElem?_eq_getElem hk) (Nat.le_refl _)
    have hp := List.pairwise_iff_getElem.1 hs k i hk (List.getElem?_eq_some_iff.1 hi).1 (by omega)
    rw [(List.getElem?_eq_some_iff.1 hi).2] at hp
    rw [hp] at h2
    cases h2
theorem AtK.put {L : Vs} {p : Bs} {k : Nat} (h : AtK L p k) (hf : fnd L p = none) (x : Vr) : put L p x = L.take k ++ (p, x) :: L.drop k :=
  put_at x hf h.le h.lo fun i e hi hik => h.hi i e hi (by omega)
theorem srt_at {L : Vs} (h : Srt L) {i j : Nat} {a b : Bs × Vr} (ha : L[i]? = some a) (hb : L[j]? = some b) (hij : i < j) : bytesBefore a.1 b.1 = true := by
  have := List.pairwise_iff_getElem.1 h i j (List.getElem?_eq_some_iff.1 ha).1 (List.getElem?_eq_some_iff.1 hb).1 hij
  rwa [(List.getElem?_eq_some_iff.1 ha).2, (List.getElem?_eq_some_iff.1 hb).2] at this
set_option maxRecDepth 100000 in
set_option maxHeartbeats 4000000 in
theorem rat_any (R : Nat) (v : Value) (L : Vs) (p : Bs) (w : World) (h : Rf w R v L) :
    Calls Try.prog 32 #[.pointer (some ⟨R, 0, none⟩), .string (mk p)] w fun r w' => ∃ k : Nat, r = .returned (.tuple #[.int .i64 k, .bool (fnd L p).isSome]) ∧ AtK L p k ∧ Below w.heap.size w w' := by
  have c0 := h.rb.c0
  have hcn := h.cnt
  have hs := h.srt
  obtain ⟨va, vc, hv⟩ := h.row.len
  rw [List.length_map] at hv
  have hcell : ∀ (i : Nat) e, L[i]? = some e → ∃ g, va = some ⟨g, 0, none⟩ ∧ L.length ≤ vc ∧ w.cell? ⟨g, i * 5, none⟩ = some (.string (mk e.1)) := fun i e hi => by
    have hnm := h.nm e (List.mem_of_getElem? hi)
    have hil := (List.getElem?_eq_some_iff.1 hi).1
    rcases h.row with ⟨e1, e2⟩ | ⟨g, cap, cur, e1, hg, r1, r2, r3⟩
    · have : L = [] := List.map_eq_nil_iff.1 e2
      subst this; simp at hi
    · rw [hv] at e1
      simp only [Value.slice.injEq] at e1
      obtain ⟨rfl, _, rfl⟩ := e1
      refine ⟨g, rfl, by simpa using r1, ?_⟩
      have := cell_row hg r3 (i := i) (r := 0) (n := e.2) (u := .string (mk e.2.name)) (by rw [List.getElem?_map, hi]; rfl) (by omega) rfl
      rw [hnm] at this
      simpa using this
  subst hv
  clear h
  obtain ⟨fb, hfb⟩ : ∃ fb, fb = (fnd L p).isSome := ⟨_, rfl⟩
  rw [← hfb]
  have HF := hide' hfb
  clear hfb
  go_enter Try.func32, Try.ntmps32
  go_wp2
  go_loopw [6, 7, 8] (fun a b _ wr => ∃ x y : Nat, a = .int .i64 x ∧ b = .int .i64 y ∧ x ≤ y ∧ y ≤ L.length ∧ (∀ (i : Nat) n, L[i]? = some n → i < x → bytesBefore n.1 p = true) ∧ (∀ (i : Nat) n, L[i]? = some n → y ≤ i → bytesBefore n.1 p = false) ∧ wr = w) (fun a b _ _ => (intOf b).toNat - (intOf a).toNat)
  case atStart => exact ⟨0, L.length, rfl, rfl, Nat.zero_le _, Nat.le_refl _, fun i n _ hi => absurd hi (Nat.not_lt_zero _), fun i n hi hle => (by rw [List.getElem?_eq_none hle] at hi; cases hi), rfl⟩
  case round =>
    obtain ⟨x, y, rfl, rfl, hxy, hyl, hlo, hhi, rfl⟩ := hrel
    by_cases hlt : x < y
    · have k1 : (x : Int) < y := by omega
      obtain ⟨m, hm⟩ : ∃ m : Nat, m = (x + y) / 2 := ⟨_, rfl⟩
      have hmq : ((x : Int) + y) / 2 = m := by omega
      have hm1 : x ≤ m := by omega
      have hm2 : m < y := by omega
      obtain ⟨n, hn⟩ : ∃ n, L[m]? = some n := ⟨_, List.getElem?_eq_getElem (by omega)⟩
      obtain ⟨g, rfl, hgc, d0⟩ := hcell m n hn
      have hmt : ((x : Int) + y).tdiv 2 = m := by rw [Int.tdiv_eq_ediv_of_nonneg (by omega)]; exact hmq
      have hstep1 : bytesBefore n.1 p = true → ∀ (i : Nat) n', L[i]? = some n' → i < m + 1 → bytesBefore n'.1 p = true := fun hb i n' hi him => by
        by_cases e : i = m
        · subst e; rw [hn] at hi; cases hi; exact hb
        · exact before_trans _ _ _ (srt_at hs hi hn (by omega)) hb
      have hstep2 : bytesBefore n.1 p = false → ∀ (i : Nat) n', L[i]? = some n' → m ≤ i → bytesBefore n'.1 p = false := fun hb i n' hi him => by
        by_cases e : i = m
        · subst e; rw [hn] at hi; cases hi; exact hb
        · cases hc : bytesBefore n'.1 p with
          | false => rfl
          | true => rw [before_trans _ _ _ (srt_at hs hn hi (by omega)) hc] at hb; cases hb
      have H1 := hide' hstep1
      have H2 := hide' hstep2
      have HL := hide' hlo
      have HH := hide' hhi
      obtain ⟨np, hnp⟩ : ∃ np, np = n.1 := ⟨_, rfl⟩
      rw [← hnp] at d0
      rw [← hnp] at H1 H2
      clear hstep1 hstep2 hlo hhi hs hn hm hnp hcell
      go_wp2
      · rename_i hx
        have hb : bytesBefore np p = true := by rw [← less_before]; simpa using hx
        exact ⟨⟨m + 1, y, by simp, rfl, by omega, hyl, H1.out hb, HH.out, trivial⟩, by simp [intOf]; omega⟩
      · rename_i hx
        have hb : bytesBefore np p = false := by rw [← less_before]; simpa using hx
        exact ⟨⟨x, m, rfl, rfl, hm1, by omega, HL.out, H2.out hb, trivial⟩, by simp [intOf]; omega⟩
    · obtain rfl : x = y := by omega
      have k1 : ¬ (x : Int) < x := by omega
      have HA : Hid (AtK L p x) := ⟨hyl, hlo, hhi⟩
      by_cases hxl : x < L.length
      · have k2 : (x : Int) < L.length := by omega
        obtain ⟨n, hn⟩ : ∃ n, L[x]? = some n := ⟨_, List.getElem?_eq_getElem hxl⟩
        obtain ⟨g, rfl, hgc, d0⟩ := hcell x n hn
        by_cases e : n.1 = p
        · have hf : (fnd L p).isSome = true := by
            have h1 : (p, n.2) ∈ L := by rw [← e]; exact List.mem_of_getElem? hn
            rw [hs.fnd h1]; rfl
          rw [e] at d0
          have hfb : fb = true := HF.out.trans hf
          have dd : decide ((x : Int) < L.length) = true := decide_eq_true k2
          subst hfb
          clear hlo hhi hs hn hcell hf e
          go_wp2
          go_quiet (fail)
          go_wp2
          refine bodyPost_ret (by simp [results, Try.results32, go_sem]; rfl) rfl ?_
          exact ⟨x, rfl, HA.out, below_drewn nq⟩
        · have hf : (fnd L p).isSome = false := by
            cases hq : fnd L p with
            | none => rfl
            | some z =>
              have := HA.out.found hq hs
              rw [hn] at this
              cases this
              exact absurd rfl e
          have e1 : (n.1 == p) = false := beq_eq_false_iff_ne.2 e
          have hfb : fb = false := HF.out.trans hf
          obtain ⟨np, hnp⟩ : ∃ np, np = n.1 := ⟨_, rfl⟩
          rw [← hnp] at d0 e1
          have dd : decide ((x : Int) < L.length) = true := decide_eq_true k2
          subst hfb
          clear hlo hhi hs hn hcell hf e hnp
          go_wp2
          go_quiet (fail)
          go_wp2
          refine bodyPost_ret (by simp [results, Try.results32, go_sem]; rfl) rfl ?_
          exact ⟨x, rfl, HA.out, below_drewn nq⟩
      · have k2 : decide ((x : Int) < L.length) = false := decide_eq_false (by omega)
        have hf : (fnd L p).isSome = false := by
          cases hq : fnd L p with
          | none => rfl
          | some z =>
            have := (List.getElem?_eq_some_iff.1 (HA.out.found hq hs)).1
            omega
        have hfb : fb = false := HF.out.trans hf
        subst hfb
        clear hlo hhi hs hcell hf
        go_wp2
        go_quiet (fail)
        go_wp2
        refine bodyPost_ret (by simp [results, Try.results32, go_sem]; rfl) rfl ?_
        exact ⟨x, rfl, HA.out, below_drewn nq⟩
end Go.Proofs.Ytillechackcbpaa
