/- The reference's file system in memory of its own: its block, its row of nodes, their bytes; what an append does to such a row. Plain: what a node laid, taken away or turned at a place of a rising list comes to; the names in a directory by their parents. The contracts of the reference's put and drop. The contract of the reference's drop. -/
import Derived.Test.YtpbfhbnkalambaaGreatDoorZt
import Derived.Test.YtpbfhbnkalambaaGreatDoorGoodOps
import Derived.Test.YtpbfhbnkalambaaGreatDoorZg
import Derived.Deep.CutBlock
namespace Go.Proofs.YtpbfhbnkalambaaGreatDoor
open Go.RowKit Go.Maps

theorem flat_append (a b : List Nv) : flat (a ++ b) = flat a ++ flat b := by unfold flat; rw [List.flatMap_append]
theorem flat_take : ∀ (ns : List Nv) (k : Nat), flat (ns.take k) = (flat ns).take (k * 4)
  | [], k => by simp [flat]
  | n :: r, 0 => by simp [flat]
  | n :: r, k + 1 => by
    have e1 : flat (n :: r) = cellsN n ++ flat r := rfl
    have e2 : flat ((n :: r).take (k + 1)) = cellsN n ++ flat (r.take k) := rfl
    have e3 : (k + 1) * 4 - (cellsN n).length = k * 4 := by show (k + 1) * 4 - 4 = _; omega
    rw [e1, e2, flat_take r k, List.take_append, List.take_of_length_le (l := cellsN n) (by show 4 ≤ _; omega), e3]
/-- a row of nodes of one's own -/
def NOwn (w : World) (v : Value) (ns : List Nv) : Prop :=
  (v = .slice none 0 0 ∧ ns = []) ∨ ∃ g cap cur, v = .slice (some ⟨g, 0, none⟩) ns.length cap ∧ w.heap[g]? = some (.cells cur 55 (0, 0)) ∧ ns.length ≤ cap ∧ cap * 4 ≤ cur.size ∧ cur.toList.take (ns.length * 4) = flat ns
/-- nodes that can be read, each one's bytes in a slice -/
def NSrc (w : World) (x : Value) (ys : List Nv) : Prop :=
  (∃ a c, x = .slice a 0 c ∧ ys = []) ∨ ∃ a c, x = .slice (some a) ys.length c ∧ ∀ j u, (flat ys)[j]? = some u → w.cell? (a.add j) = some u
def Sl (ns : List Nv) : Prop := ∀ n ∈ ns, ∃ a m c, n.dv = .slice a m c
theorem flat_one {ns : List Nv} (h : Sl ns) : ∀ u ∈ flat ns, u.oneCell' = true := by
  intro u hu
  unfold flat at hu
  obtain ⟨n, hn, hu⟩ := List.mem_flatMap.1 hu
  obtain ⟨a, m, c, e⟩ := h n hn
  simp only [cellsN, List.mem_cons, List.not_mem_nil, or_false] at hu
  rcases hu with rfl | rfl | rfl | rfl
  · rfl
  · rfl
  · rfl
  · rw [e]; rfl
theorem NOwn.nil (w : World) : NOwn w (.slice none 0 0) [] := .inl ⟨rfl, rfl⟩
theorem NOwn.kept {w w' : World} {v : Value} {ns : List Nv} (h : NOwn w v ns) (hk : ∀ g, v.ownBlock = some g → w'.heap[g]? = w.heap[g]?) : NOwn w' v ns := by
  rcases h with h | ⟨g, cap, cur, rfl, hg, r⟩
  · exact .inl h
  · exact .inr ⟨g, cap, cur, rfl, (hk g rfl).trans hg, r⟩
theorem NOwn.lt {w : World} {v : Value} {ns : List Nv} (h : NOwn w v ns) : ∀ g, v.ownBlock = some g → g < w.heap.size := by
  intro g hg
  rcases h with ⟨rfl, _⟩ | ⟨g', cap, cur, rfl, hb, r⟩
  · cases hg
  · cases hg; exact lt_of_block hb
theorem NOwn.elem {w : World} {v : Value} {ns : List Nv} (h : NOwn w v ns) : ∀ g, v.ownBlock = some g → ∃ cur, w.heap[g]? = some (.cells cur 55 (0, 0)) := by
  intro g hg
  rcases h with ⟨rfl, _⟩ | ⟨g', cap, cur, rfl, hb, r⟩
  · cases hg
  · cases hg; exact ⟨_, hb⟩
theorem NOwn.len {w : World} {v : Value} {ns : List Nv} (h : NOwn w v ns) : ∃ a cap, v = .slice a ns.length cap := by
  rcases h with ⟨rfl, rfl⟩ | ⟨g', cap, cur, rfl, hb, r⟩
  · exact ⟨_, _, rfl⟩
  · exact ⟨_, _, rfl⟩
theorem NOwn.src {w : World} {v : Value} {ns : List Nv} (h : NOwn w v ns) : NSrc w v ns := by
  rcases h with ⟨rfl, rfl⟩ | ⟨g, cap, cur, rfl, hg, h1, h2, h4⟩
  · exact .inl ⟨_, _, rfl, rfl⟩
  · refine .inr ⟨_, _, rfl, fun j u hj => ?_⟩
    have hjl : j < ns.length * 4 := by
      have := (List.getElem?_eq_some_iff.1 hj).1
      rwa [flat_len] at this
    rw [← h4, List.getElem?_take_of_lt hjl] at hj
    rw [add_zero, Lib.cell_of_heap hg]
    simpa using hj
theorem NSrc.src {w : World} {x : Value} {ys : List Nv} (h : NSrc w x ys) (hs : Sl ys) : Src Tryz.prog 4 22 x ys.length (flat ys) w := by
  rcases h with ⟨a, c, rfl, rfl⟩ | ⟨a, c, rfl, hc⟩
  · cases a with
    | none => exact Src.ofNil w Tryz.underlying22 c
    | some a => exact Src.ofSlice w Tryz.underlying22 a 0 c [] (by simp) (fun j u hj => by simp at hj) (fun u hu => by cases hu)
  · exact Src.ofSlice w Tryz.underlying22 a ys.length c (flat ys) (flat_len ys) hc (flat_one hs)
theorem nown_new (w : World) (xs : List Nv) (z : Array Value) (cap : Nat) (hz : z.size = 4) (h1 : xs.length ≤ cap) :
    NOwn (w.drew.alloc (.cells ((flat xs).toArray ++ Builtin.zeroCells z (cap - xs.length)) 55)) (.slice (some ⟨w.heap.size, 0, none⟩) xs.length cap) xs := by
  refine .inr ⟨w.heap.size, cap, _, rfl, heap_alloc_new w.drew _, h1, ?_, ?_⟩
  · simp only [Array.size_append, List.size_toArray, size_zeroCells, hz, flat_len]
    omega
  · rw [Array.toList_append, ← flat_len, List.take_left' (by simp)]
set_option maxHeartbeats 1000000 in
/-- append(v, x...), v's nodes in a row of their own -/
theorem append_own22 {v x : Value} {xs ys : List Nv} (ty : TypeId) (w : World) (hv : NOwn w v xs) (hx : NSrc w x ys) (hs : Sl ys) (hsz : xs.length + ys.length ≤ 1000000) :
    ∃ v' w', (Builtin.append_ #[22, 22] ty #[v, x]).run Tryz.prog w = .ok v' w' ∧ NOwn w' v' (xs ++ ys) ∧ w.grownBy w' v.ownBlock ∧ (v'.ownBlock = v.ownBlock ∨ v'.ownBlock = some w.heap.size) := by
  obtain ⟨i, hi, hz0, hz1, hz2⟩ := info_parts info55
  have hsr := hx.src hs
  have hxl := flat_len xs
  have hyl := flat_len ys
  have hml : xs.length + ys.length ≤ maxLen := by unfold maxLen; omega
  have e3 : flat (xs ++ ys) = flat xs ++ flat ys := flat_append xs ys
  have hlen : (xs ++ ys).length = xs.length + ys.length := List.length_append
  rcases hv with ⟨rfl, rfl⟩ | ⟨g, cap, cur, rfl, hg, h1, h2, h4⟩
  · by_cases hy : ys = []
    · subst hy
      refine ⟨.slice none 0 0, w, ?_, .inl ⟨rfl, rfl⟩, ⟨rfl, rfl, rfl, Nat.le_refl _, fun _ _ _ => rfl⟩, .inl rfl⟩
      rcases hx with ⟨a, c, rfl, _⟩ | ⟨a, c, rfl, _⟩
      · cases a <;> simp [Builtin.append_, run_underlying Tryz.underlying22, sizeOf, typeInfo, hi, Builtin.lenOf, Builtin.firstCells, loadCells, loadCellsFrom]
      · simp [Builtin.append_, run_underlying Tryz.underlying22, sizeOf, typeInfo, hi, Builtin.lenOf, Builtin.firstCells, loadCells, loadCellsFrom]
    · have hpos : 0 < ys.length := List.length_pos_iff.2 hy
      have hr := run_append_grow_src w 22 22 ty 55 i _ Tryz.underlying22 hi hz0 none 0 0 [] (run_firstCells_none w.drew i.size 0 0 0) x ys.length (flat ys) (by rw [hz1]; exact hsr) (by omega) (by omega)
        (by rw [hz2]; exact growslice_fits (by omega) (by omega))
      simp only [List.nil_append, Nat.zero_add] at hr
      refine ⟨_, _, hr, ?_, ⟨rfl, rfl, rfl, by simp, fun k hk _ => Lib.alloc_old w.drew _ k hk⟩, .inr rfl⟩
      exact nown_new w ys _ _ rfl (grownCap_ge _ _ _ _)
  · by_cases hroom : xs.length + ys.length ≤ cap
    · rcases hx with ⟨a, c, rfl, rfl⟩ | ⟨a, c, rfl, hc⟩
      · refine ⟨_, _, run_append_room_src w 22 22 ty 55 i Tryz.underlying22 hi g 0 xs.length cap _ 0 [] (by rw [hz1]; exact hsr) (by simpa using hroom) (by simp) (by simp), ?_, ⟨rfl, rfl, rfl, Nat.le_refl _, fun _ _ _ => rfl⟩, .inl rfl⟩
        rw [List.append_nil]
        exact .inr ⟨g, cap, cur, rfl, hg, h1, h2, h4⟩
      · have hr := run_append_room (P := Tryz.prog) w 22 ty 55 i Tryz.underlying22 hi g xs.length cap cur hg a ys.length c (flat ys) (by rw [hyl, hz1]) hc (flat_one hs) hroom (by rw [hyl, hz1]; omega)
        rw [hz1, h4] at hr
        have hcs : (flat xs ++ flat ys ++ cur.toList.drop (xs.length * 4 + (flat ys).length)).toArray.size = cur.size := by
          simp only [List.size_toArray, List.length_append, hxl, hyl, List.length_drop, Array.length_toList]
          omega
        refine ⟨_, _, hr, ?_, ⟨rfl, rfl, rfl, by simp, fun k _ hk => setRow_other w g k _ (fun e => hk (by simp [Value.ownBlock, e]))⟩, .inl rfl⟩
        refine .inr ⟨g, cap, _, by rw [hlen], setRow_heap w g cur _ 55 _ hg, by omega, by rw [hcs]; exact h2, ?_⟩
        rw [e3, List.take_left' (by rw [List.length_append, hxl, hyl, hlen]; omega)]
    · have hold : (Builtin.firstCells i.size xs.length (.slice (some ⟨g, 0, none⟩) xs.length cap)).run Tryz.prog w.drew = .ok (flat xs).toArray w.drew := by
        refine run_firstCells_some w.drew i.size xs.length ⟨g, 0, none⟩ xs.length cap (flat xs) (by rw [hxl, hz1]) fun j u hj => ?_
        have hD : NOwn w (.slice (some ⟨g, 0, none⟩) xs.length cap) xs := .inr ⟨g, cap, cur, rfl, hg, h1, h2, h4⟩
        rcases hD.src with ⟨a', c', e, e2⟩ | ⟨a', cap', e, hcc⟩
        · rw [e2] at hj
          simp [flat] at hj
        · cases e
          simpa using hcc j u hj
      have hr := run_append_grow_src w 22 22 ty 55 i _ Tryz.underlying22 hi hz0 (some ⟨g, 0, none⟩) xs.length cap (flat xs) hold x ys.length (flat ys) (by rw [hz1]; exact hsr) (by omega) (by omega)
        (by rw [hz2]; exact growslice_fits (by omega) (by omega))
      refine ⟨_, _, hr, ?_, ⟨rfl, rfl, rfl, by simp, fun k hk _ => Lib.alloc_old w.drew _ k hk⟩, .inr rfl⟩
      have := nown_new w (xs ++ ys) (Value.agg #[.string ⟨#[]⟩, .bool false, .int .i64 0, .slice none 0 0]).cells (grownCap w (xs.length + ys.length) cap 55) rfl (by rw [hlen]; exact grownCap_ge _ _ _ _)
      rw [hlen, e3] at this
      exact this
/-- at the operation -/
theorem wp_append22 {v x : Value} {xs ys : List Nv} (w : World) {o : Oper} {a : Act} {K : Act → World → Prop} {Q : Exit → Act → World → Prop} (s y : Operand)
    (ho : o.op = .call { callee := .builtin .append, args := #[s, y], argTypes := #[22, 22] }) (hs : a.eval s = v) (hy : a.eval y = x)
    (hv : NOwn w v xs) (hx : NSrc w x ys) (hsl : Sl ys) (hsz : xs.length + ys.length ≤ 1000000)
    (h : ∀ v' w', NOwn w' v' (xs ++ ys) → w.grownBy w' v.ownBlock → (v'.ownBlock = v.ownBlock ∨ v'.ownBlock = some w.heap.size) → K (a.put o.dst v') w') :
    o.wp Tryz.prog a w K Q := by
  obtain ⟨v', w', hr, h2, h4, h5⟩ := append_own22 o.type w hv hx hsl hsz
  unfold Oper.wp execOp
  simp only [ho, resolve, invoke, builtin, Sem.run_bind, Sem.run_pure, Result.andThen_ok, List.map_toArray, List.map_cons, List.map_nil, hs, hy, hr]
  exact h v' w' h2 h4 h5

/-- a file system of the reference, its blocks among S -/
structure RfAt (w : World) (S : Nat → Prop) (R : Nat) (v : Value) (ns : List Nv) (clk rm : Int) : Prop where
  rb : Rb w R v clk rm
  row : NOwn w v ns
  dat : ∀ n ∈ ns, Dat w n.dv n.nd.data
  sR : S R
  sV : ∀ g, v.ownBlock = some g → S g
  sD : ∀ n ∈ ns, ∀ g, n.dv.ownBlock = some g → S g
theorem RfAt.below {w w' : World} {S : Nat → Prop} {R : Nat} {v : Value} {ns : List Nv} {clk rm : Int} (h : RfAt w S R v ns clk rm) (hb : Below w.heap.size w w') : RfAt w' S R v ns clk rm :=
  ⟨h.rb.below hb, h.row.kept fun g hg => hb.block g (h.row.lt g hg), fun n hn => (h.dat n hn).kept fun g hg => hb.block g ((h.dat n hn).lt g hg), h.sR, h.sV, h.sD⟩
theorem RfAt.apart {w w' : World} {S : Nat → Prop} {R : Nat} {v : Value} {ns : List Nv} {clk rm : Int} (h : RfAt w S R v ns clk rm) (hk : ∀ b, S b → w'.heap[b]? = w.heap[b]?) : RfAt w' S R v ns clk rm :=
  ⟨(hk R h.sR).trans h.rb, h.row.kept fun g hg => hk g (h.sV g hg), fun n hn => (h.dat n hn).kept fun g hg => hk g (h.sD n hn g hg), h.sR, h.sV, h.sD⟩
theorem RfAt.mono {w : World} {S S' : Nat → Prop} {R : Nat} {v : Value} {ns : List Nv} {clk rm : Int} (h : RfAt w S R v ns clk rm) (hs : ∀ i, S i → S' i) : RfAt w S' R v ns clk rm :=
  ⟨h.rb, h.row, h.dat, hs _ h.sR, fun g hg => hs _ (h.sV g hg), fun n hn g hg => hs _ (h.sD n hn g hg)⟩
theorem RfAt.shrink {w : World} {S : Nat → Prop} {R : Nat} {v : Value} {ns : List Nv} {clk rm : Int} (h : RfAt w S R v ns clk rm) : RfAt w (fun i => S i ∧ i < w.heap.size) R v ns clk rm :=
  ⟨h.rb, h.row, h.dat, ⟨h.sR, lt_of_block h.rb⟩, fun g hg => ⟨h.sV g hg, h.row.lt g hg⟩, fun n hn g hg => ⟨h.sD n hn g hg, (h.dat n hn).lt g hg⟩⟩
theorem RfAt.sl {w : World} {S : Nat → Prop} {R : Nat} {v : Value} {ns : List Nv} {clk rm : Int} (h : RfAt w S R v ns clk rm) : Sl ns := fun n hn => by
  obtain ⟨a, c, e⟩ := (h.dat n hn).len
  exact ⟨_, _, _, e⟩
theorem NOwn.nodes {w : World} {v : Value} {ns : List Nv} (h : NOwn w v ns) (hd : ∀ n ∈ ns, Rds w n.dv n.nd.data) : Nodes w v ns := by
  rcases h with ⟨rfl, rfl⟩ | ⟨g, cap, cur, rfl, hg, hc, hs, ht⟩
  · exact .inl ⟨⟨_, _, rfl⟩, rfl⟩
  · refine .inr ⟨g, 0, cap, rfl, hc, ⟨lt_of_block hg, fun i n hi => ?_, fun i n hi => ?_, fun i n hi => ?_, fun i n hi => ?_⟩, hd⟩
    · rw [Nat.zero_add]; exact cell_row hg ht (r := 0) hi (by omega) rfl
    · rw [Nat.zero_add]; exact cell_row hg ht (r := 1) hi (by omega) rfl
    · rw [Nat.zero_add]; exact cell_row hg ht (r := 2) hi (by omega) rfl
    · rw [Nat.zero_add]; exact cell_row hg ht (r := 3) hi (by omega) rfl
theorem RfAt.nodes {w : World} {S : Nat → Prop} {R : Nat} {v : Value} {ns : List Nv} {clk rm : Int} (h : RfAt w S R v ns clk rm) : Nodes w v ns := h.row.nodes fun n hn => (h.dat n hn).rds
/-- a row of nodes is no file system's block, and no row of bytes -/
theorem NOwn.ne_rb {w : World} {v v' : Value} {ns : List Nv} {R : Nat} {clk rm : Int} (h : NOwn w v ns) (hr : Rb w R v' clk rm) : ∀ g, v.ownBlock = some g → g ≠ R := by
  intro g hg e
  obtain ⟨cur, hc⟩ := h.elem g hg
  unfold Rb at hr
  rw [e, hr] at hc
  simp at hc
theorem NOwn.ne_dat {w : World} {v v' : Value} {ns : List Nv} {bs : Bs} (h : NOwn w v ns) (hr : Dat w v' bs) : ∀ g, v.ownBlock = some g → v'.ownBlock ≠ some g := by
  intro g hg e
  obtain ⟨cur, hc⟩ := h.elem g hg
  obtain ⟨cur', hc'⟩ := hr.elem g e
  rw [hc] at hc'
  simp at hc'
theorem dat_ne_rb {w : World} {v v' : Value} {R : Nat} {bs : Bs} {clk rm : Int} (hd : Dat w v bs) (hr : Rb w R v' clk rm) : ∀ g, v.ownBlock = some g → g ≠ R := by
  intro g hg e
  obtain ⟨cur', hc'⟩ := hd.elem g hg
  unfold Rb at hr
  rw [e, hr] at hc'
  simp at hc'
end Go.Proofs.YtpbfhbnkalambaaGreatDoor
namespace Go.Proofs.YtpbfhbnkalambaaGreatDoor
open Go.RowKit Go.Maps

theorem ins_at {α : Type} (p : Bs) (x : α) : ∀ (L : List (Bs × α)) (k : Nat), k ≤ L.length → (∀ (i : Nat) e, L[i]? = some e → i < k → bytesBefore e.1 p = true) → (∀ (i : Nat) e, L[i]? = some e → i = k → bytesBefore p e.1 = true) → ins (p, x) L = L.take k ++ (p, x) :: L.drop k
  | [], k, hk, _, _ => by
    obtain rfl : k = 0 := by simpa using hk
    rfl
  | y :: r, 0, _, _, h2 => by
    unfold ins
    rw [if_pos (h2 0 y rfl rfl)]
    rfl
  | y :: r, k + 1, hk, h1, h2 => by
    have hb : ¬ bytesBefore p y.1 = true := by rw [before_asymm (h1 0 y rfl (Nat.succ_pos _))]; simp
    unfold ins
    rw [if_neg hb, ins_at p x r k (by simpa using hk) (fun i e hi hlt => h1 (i + 1) e (by simpa using hi) (by omega)) (fun i e hi hlt => h2 (i + 1) e (by simpa using hi) (by omega))]
    rfl
theorem put_at {α : Type} {L : List (Bs × α)} {p : Bs} (x : α) {k : Nat} (hf : fnd L p = none) (hk : k ≤ L.length) (h1 : ∀ (i : Nat) e, L[i]? = some e → i < k → bytesBefore e.1 p = true) (h2 : ∀ (i : Nat) e, L[i]? = some e → i = k → bytesBefore e.1 p = false) : put L p x = L.take k ++ (p, x) :: L.drop k := by
  unfold put
  rw [del_none hf]
  refine ins_at p x L k hk h1 fun i e hi hik => ?_
  have hb := h2 i e hi hik
  rcases before_total e.1 p with h | h | h
  · rw [hb] at h; cases h
  · exact absurd h (fnd_none hf e (List.mem_of_getElem? hi))
  · exact h
theorem del_at {α : Type} : ∀ {L : List (Bs × α)}, Srt L → ∀ {k : Nat} {e : Bs × α}, L[k]? = some e → del L e.1 = L.take k ++ L.drop (k + 1)
  | [], _, k, e, hk => by simp at hk
  | y :: r, h, 0, e, hk => by
    obtain rfl : y = e := by simpa using hk
    obtain ⟨h1, h2⟩ := List.pairwise_cons.1 h
    unfold del
    rw [List.filter_cons, if_neg (by simp)]
    show del r y.1 = r
    exact del_none (fnd_none_of fun q hq e2 => before_ne (h1 q hq) e2.symm)
  | y :: r, h, k + 1, e, hk => by
    obtain ⟨h1, h2⟩ := List.pairwise_cons.1 h
    have hr : r[k]? = some e := by simpa using hk
    have hne : y.1 ≠ e.1 := before_ne (h1 e (List.mem_of_getElem? hr))
    have hd : del (y :: r) e.1 = y :: del r e.1 := by
      unfold del
      rw [List.filter_cons, if_pos (by simp [hne])]
    rw [hd, del_at h2 hr]
    rfl
theorem put_set {α : Type} {L : List (Bs × α)} (h : Srt L) {k : Nat} {e : Bs × α} (hk : L[k]? = some e) (x : α) : put L e.1 x = L.set k (e.1, x) := by
  have hl : k < L.length := (List.getElem?_eq_some_iff.1 hk).1
  unfold put
  rw [del_at h hk]
  have hlt : (L.take k).length = k := by rw [List.length_take]; omega
  have hp := List.pairwise_iff_getElem.1 h
  have hek : L[k] = e := (List.getElem?_eq_some_iff.1 hk).2
  rw [ins_at e.1 x _ k (by rw [List.length_append, hlt]; omega)]
  · have h1 : (L.take k ++ L.drop (k + 1)).take k = L.take k := List.take_left' hlt
    have h2 : (L.take k ++ L.drop (k + 1)).drop k = L.drop (k + 1) := List.drop_left' hlt
    rw [h1, h2, List.set_eq_take_append_cons_drop, if_pos hl]
  · intro i y hi hik
    rw [List.getElem?_append_left (by omega), List.getElem?_take_of_lt hik] at hi
    obtain ⟨h1, h2⟩ := List.getElem?_eq_some_iff.1 hi
    have := hp i k h1 hl hik
    rw [h2, hek] at this
    exact this
  · intro i y hi hik
    subst hik
    rw [List.getElem?_append_right (by omega), hlt, Nat.sub_self, List.getElem?_drop] at hi
    obtain ⟨h1, h2⟩ := List.getElem?_eq_some_iff.1 hi
    have := hp i (i + 1 + 0) hl h1 (by omega)
    rw [hek, h2] at this
    exact this

theorem kid_ahead (p x : Bs) : (p = [] → ahead p ++ x = x) ∧ (p ≠ [] → ahead p ++ x = p ++ 47 :: x) := by
  unfold ahead
  constructor
  · intro h; rw [if_pos h]; rfl
  · intro h; rw [if_neg h]; simp
theorem last_of {p x : Bs} (h : kpt p = kpt (par p) ++ [x]) : (kpt p).getLastD [] = x := by rw [h]; simp
/-- a path's name in a directory, by its parent -/
theorem kidOf_par {p q : Bs} (hq : valid q = true) (hne : q ≠ []) : kidOf p q = if par q = p then some ((kpt q).getLastD []) else none := by
  obtain ⟨x, hx, hc, _, _, hl⟩ := par_cases q (valid_clean hq) hne
  have hnx : x.contains 47 = false := by
    cases hcx : x.contains 47 with
    | false => rfl
    | true => exact absurd (List.contains_iff_mem.1 hcx) hx.2.1
  have hqx : q = ahead (par q) ++ x := by
    rcases hc with ⟨h1, h2⟩ | ⟨h1, h2⟩
    · rw [(kid_ahead _ x).1 h1]; exact h2
    · rw [(kid_ahead _ x).2 h1]; exact h2
  rw [last_of hl]
  by_cases hp : par q = p
  · rw [if_pos hp]
    rw [hp] at hqx
    unfold kidOf
    have h5 : (ahead p).isPrefixOf q = true := by rw [List.isPrefixOf_iff_prefix, hqx]; exact List.prefix_append _ _
    have h6 : q.drop (ahead p).length = x := by rw [hqx, List.drop_left]
    rw [h5, h6, hnx]
    rfl
  · rw [if_neg hp]
    cases hk : kidOf p q with
    | none => rfl
    | some y =>
      exfalso
      unfold kidOf at hk
      split at hk
      · rename_i hcond
        simp only [Bool.and_eq_true, Bool.not_eq_true'] at hcond
        obtain ⟨h1, h2⟩ := hcond
        obtain ⟨z, hz⟩ := List.isPrefixOf_iff_prefix.1 h1
        have hd : q.drop (ahead p).length = z := by rw [← hz, List.drop_left]
        rw [hd] at h2
        have hz47 : 47 ∉ z := fun hm => by rw [List.contains_iff_mem.2 hm] at h2; cases h2
        have e1 : ahead p ++ z = ahead (par q) ++ x := by rw [hz]; exact hqx
        -- both are cut at the last slash
        by_cases hp0 : p = []
        · rw [(kid_ahead p z).1 hp0] at e1
          by_cases hq0 : par q = []
          · exact hp (hq0.trans hp0.symm)
          · rw [(kid_ahead _ x).2 hq0] at e1
            exact hz47 (by rw [e1]; simp)
        · rw [(kid_ahead p z).2 hp0] at e1
          by_cases hq0 : par q = []
          · rw [(kid_ahead _ x).1 hq0] at e1
            exact hx.2.1 (by rw [← e1]; simp)
          · rw [(kid_ahead _ x).2 hq0] at e1
            have l1 := lp_behind p z hz47
            have l2 := lp_behind (par q) x hx.2.1
            rw [e1, l2] at l1
            have hlen : (par q).length = p.length := by omega
            have := congrArg (List.take p.length) e1
            rw [List.take_left' rfl, List.take_left' hlen] at this
            exact hp this.symm
      · cases hk
theorem kidNames_par {α : Type} (T : List (Bs × α)) (p : Bs) (h : ∀ e ∈ T, valid e.1 = true ∧ e.1 ≠ []) : kidNames T p = ((T.map (·.1)).filter (fun q => decide (par q = p))).map (fun q => (kpt q).getLastD []) := by
  unfold kidNames
  induction T with
  | nil => rfl
  | cons e r ih =>
    obtain ⟨hv, hn⟩ := h e List.mem_cons_self
    have ih' := ih fun x hx => h x (List.mem_cons_of_mem _ hx)
    rw [List.map_cons, List.filterMap_cons, List.filter_cons, kidOf_par hv hn]
    by_cases hp : par e.1 = p
    · rw [if_pos hp, if_pos (decide_eq_true hp), List.map_cons, ih']
    · rw [if_neg hp, if_neg (by simp [hp]), ih']
theorem kid_some {T : Tr} {p : Bs} (h : ∀ e ∈ T, valid e.1 = true ∧ e.1 ≠ []) : (kidNames T p).isEmpty = !(T.any fun e => decide (par e.1 = p)) := by
  rw [kidNames_par T p h]
  induction T with
  | nil => rfl
  | cons e r ih =>
    have ih' := ih fun x hx => h x (List.mem_cons_of_mem _ hx)
    rw [List.map_cons, List.filter_cons, List.any_cons]
    by_cases hp : par e.1 = p
    · rw [if_pos (decide_eq_true hp), decide_eq_true hp]
      simp
    · rw [if_neg (by simp [hp]), decide_eq_false hp, Bool.false_or]
      exact ih'
/-- names of one directory are apart -/
theorem kid_inj {a b : Bs} (ha : valid a = true ∧ a ≠ []) (hb : valid b = true ∧ b ≠ []) (hp : par a = par b) (hl : (kpt a).getLastD [] = (kpt b).getLastD []) : a = b := by
  obtain ⟨x, hx, hc, _, _, h1⟩ := par_cases a (valid_clean ha.1) ha.2
  obtain ⟨y, hy, hd, _, _, h2⟩ := par_cases b (valid_clean hb.1) hb.2
  rw [last_of h1, last_of h2] at hl
  subst hl
  rcases hc with ⟨e1, e2⟩ | ⟨e1, e2⟩
  · rcases hd with ⟨d1, d2⟩ | ⟨d1, d2⟩
    · rw [e2, d2]
    · exact absurd (hp.symm.trans e1) d1
  · rcases hd with ⟨d1, d2⟩ | ⟨d1, d2⟩
    · exact absurd (hp.trans d1) e1
    · rw [e2, d2, hp]
theorem kids_nodup {α : Type} {T : List (Bs × α)} (hs : Srt T) (p : Bs) (h : ∀ e ∈ T, valid e.1 = true ∧ e.1 ≠ []) : (kidNames T p).Nodup := by
  rw [kidNames_par T p h]
  have hk : (T.map (·.1)).Nodup := List.Pairwise.imp (fun h => before_ne h) (List.pairwise_map.2 hs)
  have hf : ((T.map (·.1)).filter (fun q => decide (par q = p))).Nodup := List.Pairwise.filter _ hk
  refine List.pairwise_map.2 ?_
  refine List.Pairwise.imp_of_mem (fun {a b} ha hb hne e => hne ?_) hf
  obtain ⟨ha1, ha2⟩ := List.mem_filter.1 ha
  obtain ⟨hb1, hb2⟩ := List.mem_filter.1 hb
  obtain ⟨ea, hea, rfl⟩ := List.mem_map.1 ha1
  obtain ⟨eb, heb, rfl⟩ := List.mem_map.1 hb1
  exact kid_inj (h ea hea) (h eb heb) ((of_decide_eq_true ha2).trans (of_decide_eq_true hb2).symm) e
end Go.Proofs.YtpbfhbnkalambaaGreatDoor
namespace Go.Proofs.YtpbfhbnkalambaaGreatDoor
open Go.RowKit Go.Maps

theorem map_toE_get {ns : List Nv} {i : Nat} {e : Bs × Nd} (h : (ns.map toE)[i]? = some e) : ∃ n, ns[i]? = some n ∧ toE n = e := by
  rw [List.getElem?_map] at h
  cases hn : ns[i]? with
  | none => rw [hn] at h; cases h
  | some n => rw [hn] at h; exact ⟨n, rfl, Option.some.inj h⟩
/-- f.Nodes[k:] -/
theorem slice_from {w : World} {v : Value} {ns : List Nv} (h : NOwn w v ns) {k : Nat} (hk : k ≤ ns.length) :
    ∃ x, (∀ W : World, (Instr.slice 22 v (some (.int .i64 k)) none none).run Tryz.prog W = .ok x W) ∧ NSrc w x (ns.drop k) ∧ ∃ a m c, x = .slice a m c := by
  obtain ⟨i, hi, hz0, hz1, hz2⟩ := info_parts info55
  rcases h with ⟨rfl, rfl⟩ | ⟨g, cap, cur, rfl, hg, h1, h2, h4⟩
  · obtain rfl : k = 0 := by simpa using hk
    exact ⟨.slice none 0 0, fun W => by simp [Instr.slice, Instr.sliceBounds, Instr.sliceBound, asIntOf, run_underlying Tryz.underlying22, sizeOf, typeInfo, hi], .inl ⟨_, _, rfl, rfl⟩, _, _, _, rfl⟩
  · refine ⟨.slice (some (if cap = k then ⟨g, 0, none⟩ else ⟨g, k * 4, none⟩)) (ns.length - k) (cap - k), fun W => ?_, ?_, _, _, _, rfl⟩
    · by_cases hck : cap = k
      · simp [Instr.slice, Instr.sliceBounds, Instr.sliceBound, run_underlying Tryz.underlying22, asIntOf, sizeOf, typeInfo, hi, hck, hk]
      · simp [Instr.slice, Instr.sliceBounds, Instr.sliceBound, run_underlying Tryz.underlying22, asIntOf, sizeOf, typeInfo, hi, hz1, hck, hk, Addr.add_lit]
    · by_cases hd : ns.drop k = []
      · rw [hd]
        have : ns.length - k = 0 := by have := congrArg List.length hd; simpa using this
        rw [this]
        exact .inl ⟨_, _, rfl, rfl⟩
      · have hlt : k < ns.length := by
          rcases Nat.lt_or_ge k ns.length with h | h
          · exact h
          · exact absurd (List.drop_eq_nil_of_le h) hd
        rw [if_neg (by omega)]
        refine .inr ⟨⟨g, k * 4, none⟩, cap - k, by rw [List.length_drop], fun j u hj => ?_⟩
        have e1 : flat ns = flat (ns.take k) ++ flat (ns.drop k) := by rw [← flat_append, List.take_append_drop]
        have hfk : (flat (ns.take k)).length = k * 4 := by rw [flat_len, List.length_take]; omega
        have hj2 : (flat ns)[k * 4 + j]? = some u := by rw [e1, List.getElem?_append_right (by omega), hfk, Nat.add_sub_cancel_left]; exact hj
        have hjl : k * 4 + j < ns.length * 4 := by have := (List.getElem?_eq_some_iff.1 hj2).1; rwa [flat_len] at this
        rw [← h4, List.getElem?_take_of_lt hjl] at hj2
        rw [Addr.add_lit, Lib.cell_of_heap hg]
        simpa using hj2
/-- f.Nodes[:k] -/
theorem slice_to {w : World} {v : Value} {ns : List Nv} (h : NOwn w v ns) {k : Nat} (hk : k ≤ ns.length) :
    ∃ y, (∀ W : World, (Instr.slice 22 v none (some (.int .i64 k)) none).run Tryz.prog W = .ok y W) ∧ NOwn w y (ns.take k) ∧ y.ownBlock = v.ownBlock ∧ ∃ a m c, y = .slice a m c := by
  obtain ⟨i, hi, hz0, hz1, hz2⟩ := info_parts info55
  rcases h with ⟨rfl, rfl⟩ | ⟨g, cap, cur, rfl, hg, h1, h2, h4⟩
  · obtain rfl : k = 0 := by simpa using hk
    exact ⟨.slice none 0 0, fun W => by simp [Instr.slice, Instr.sliceBounds, Instr.sliceBound, asIntOf, run_underlying Tryz.underlying22, sizeOf, typeInfo, hi], .inl ⟨rfl, rfl⟩, rfl, _, _, _, rfl⟩
  · refine ⟨.slice (some ⟨g, 0, none⟩) k cap, fun W => ?_, .inr ⟨g, cap, cur, by rw [List.length_take, Nat.min_eq_left hk], hg, by rw [List.length_take]; omega, h2, ?_⟩, rfl, _, _, _, rfl⟩
    · have c1 : k ≤ cap := by omega
      simp [Instr.slice, Instr.sliceBounds, Instr.sliceBound, run_underlying Tryz.underlying22, asIntOf, sizeOf, typeInfo, hi, c1, Addr.add_lit]
    · rw [List.length_take, Nat.min_eq_left hk, flat_take, ← h4, List.take_take, Nat.min_eq_left (by omega)]
/-- the class of worlds in put's last region -/
structure PtC (R b : Nat) (v : Value) (n : Nv) (w : World) : Prop where
  c0 : w.cell? ⟨R, 0, none⟩ = some v
  d0 : w.cell? ⟨b, 0, none⟩ = some (.string (mk n.path))
  d1 : w.cell? ⟨b, 1, none⟩ = some (.bool n.nd.dir)
  d2 : w.cell? ⟨b, 2, none⟩ = some (.int .i64 n.nd.time)
  d3 : w.cell? ⟨b, 3, none⟩ = some n.dv
set_option maxRecDepth 100000 in
set_option maxHeartbeats 4000000 in
theorem rput_any (S : Nat → Prop) (R : Nat) (v : Value) (ns : List Nv) (n : Nv) (clk rm : Int) (w : World) (h : RfAt w S R v ns clk rm) (hs : Srt (ns.map toE)) (hl : ns.length ≤ 1000) (hn : Dat w n.dv n.nd.data) (hnS : ∀ g, n.dv.ownBlock = some g → S g) (hno : fnd (ns.map toE) n.path = none) :
    Calls Tryz.prog 73 #[.pointer (some ⟨R, 0, none⟩), .agg #[.string (mk n.path), .bool n.nd.dir, .int .i64 n.nd.time, n.dv]] w fun r w' => r = .returned (.tuple #[]) ∧ ∃ v' ns' S', RfAt w' S' R v' ns' clk rm ∧ ns'.map toE = put (ns.map toE) n.path n.nd ∧ Turn S w w' ∧ ∀ i, S' i → S i ∨ w.heap.size ≤ i := by
  obtain ⟨va, vc, hv⟩ := h.row.len
  subst hv
  obtain ⟨da, dc, hdv⟩ := hn.len
  generalize hdl : n.nd.data.length = dl at hdv
  obtain ⟨w0, hw0⟩ : ∃ w0, w0 = w.alloc (.cells #[.string (mk n.path), .bool n.nd.dir, .int .i64 n.nd.time, .slice da dl dc] 55) := ⟨_, rfl⟩
  have hb0 : Below w.heap.size w w0 := by rw [hw0]; exact (Below.refl _ _).alloc (Nat.le_refl _) _
  have z0 : w0.heap[w.heap.size]? = some (.cells #[.string (mk n.path), .bool n.nd.dir, .int .i64 n.nd.time, .slice da dl dc] 55 (0, 0)) := by rw [hw0]; exact alloc_new _ _
  have hs0 : w0.heap.size = w.heap.size + 1 := by rw [hw0]; simp
  have H := hide' h
  have HS := hide' hs
  have HN := hide' hn
  have HNO := hide' hno
  have HNS := hide' hnS
  have HB0 := hide' hb0
  have HZ0 := hide' z0
  have HDV := hide' hdv
  have HDL := hide' hdl
  rw [hdv]
  clear h hs hn hno hnS hb0 z0 hdv hdl
  go_enter Tryz.func73, Tryz.ntmps73
  go_upto_region 1 with fail
  rw [← hw0]
  clear hw0
  go_wp2
  go_loopw [4] (fun i wr => ∃ k : Nat, k ≤ ns.length ∧ i = .int .i64 k ∧ Hid (∀ (i : Nat) e, (ns.map toE)[i]? = some e → i < k → bytesBefore e.1 n.path = true) ∧ Hid (Below w0.heap.size w0 wr)) (fun i _ => ns.length - (intOf i).toNat)
  case atStart => exact ⟨0, Nat.zero_le _, rfl, hide' fun i e _ hi => absurd hi (Nat.not_lt_zero _), hide' (Below.refl _ _)⟩
  case round =>
    obtain ⟨k, hk, rfl, HLO, HBR⟩ := hrel
    have hBr := HBR.out
    have hsz := hBr.size
    have zr := (hBr.block w.heap.size (by omega)).trans HZ0.out
    have d0 : wr.cell? ⟨w.heap.size, 0, none⟩ = some (.string (mk n.path)) := by rw [Lib.cell_of_heap zr]; rfl
    have d1 : wr.cell? ⟨w.heap.size, 1, none⟩ = some (.bool n.nd.dir) := by rw [Lib.cell_of_heap zr]; rfl
    have d2 : wr.cell? ⟨w.heap.size, 2, none⟩ = some (.int .i64 n.nd.time) := by rw [Lib.cell_of_heap zr]; rfl
    have d3 : wr.cell? ⟨w.heap.size, 3, none⟩ = some (.slice da dl dc) := by rw [Lib.cell_of_heap zr]; rfl
    have hBw : Below w.heap.size w wr := HB0.out.trans (hBr.mono HB0.out.size)
    have hRw := H.out.below hBw
    have c0 := hRw.rb.cells
    have k9 : (k : Int) ≤ ns.length := by omega
    have HRW := hide' hRw
    have HBW := hide' hBw
    clear hBr hRw hBw zr
    go_upto_region 2 with fail
    go_cut [25] from 6 to 27 (fun c wx => (∃ b, c = .bool b ∧ (b = true → k < ns.length ∧ ∀ e, (ns.map toE)[k]? = some e → bytesBefore e.1 n.path = true) ∧ (b = false → ∀ e, (ns.map toE)[k]? = some e → bytesBefore e.1 n.path = false)) ∧ ∃ q, wx = wr.drewN q)
    case first =>
      by_cases hkl : k < ns.length
      · have k1 : (k : Int) < ns.length := by omega
        have k1b : decide ((k : Int) < (ns.length : Nat)) = true := decide_eq_true k1
        have k1c : decide (k < ns.length) = true := decide_eq_true hkl
        obtain ⟨m, hm⟩ : ∃ m, ns[k]? = some m := ⟨_, List.getElem?_eq_getElem hkl⟩
        have e0 : wr.cell? ⟨match va with | some a => a.block | none => 0, k * 4, none⟩ = some (.string (mk m.path)) ∧ ∃ g, va = some ⟨g, 0, none⟩ := by
          rcases HRW.out.row with ⟨_, e0⟩ | ⟨g, cap, cur, e, hg, h1, h2, h4⟩
          · rw [e0] at hkl; simp at hkl
          · cases e
            exact ⟨cell_row (r := 0) hg h4 hm (by omega) rfl, g, rfl⟩
        obtain ⟨e0, g, rfl⟩ := e0
        simp only at e0
        have hlb : Op.bytesLess m.path n.path = bytesBefore m.path n.path := less_before _ _
        have HM := hide' hm
        clear hm
        generalize hnl : ns.length = nl at *
        clear hnl
        go_quiet (fail)
        go_wp2_with fail
        go_meet
        case rel =>
          refine ⟨⟨bytesBefore m.path n.path, by simp, fun hb => ⟨hkl, fun e he => ?_⟩, fun hb e he => ?_⟩, _, rfl⟩
          · obtain ⟨m', hm', rfl⟩ := map_toE_get he
            rw [HM.out] at hm'
            cases hm'
            exact hb
          · obtain ⟨m', hm', rfl⟩ := map_toE_get he
            rw [HM.out] at hm'
            cases hm'
            exact hb
      · have k1 : ¬ (k : Int) < ns.length := by omega
        have k1b : decide ((k : Int) < (ns.length : Nat)) = false := decide_eq_false k1
        have k1c : decide (k < ns.length) = false := decide_eq_false hkl
        go_quiet (fail)
        go_wp2_with fail
        go_meet
        case rel => exact ⟨⟨false, rfl, fun hb => (by cases hb), fun _ e he => by
          obtain ⟨m', hm', rfl⟩ := map_toE_get he
          rw [List.getElem?_eq_none (by omega)] at hm'
          cases hm'⟩, _, rfl⟩
    case rest =>
      obtain ⟨⟨b, rfl, hbt, hbf⟩, q, hwc⟩ := hcut
      have hbc : Below wr.heap.size wr wc := by rw [hwc]; exact below_drewn q
      cases b with
      | true =>
        obtain ⟨hkl, hbb⟩ := hbt rfl
        have HX := hide' (And.intro hbb (HBR.out.trans (hbc.mono HBR.out.size)))
        clear hbf hbt hbc hwc hbb
        go_wp2
        exact ⟨⟨k + 1, by omega, by simp, hide' fun i e he hi => by
          by_cases hik : i = k
          · subst hik; exact HX.out.1 e he
          · exact HLO.out i e he (by omega), hide' HX.out.2⟩, by simp [intOf]; omega⟩
      | false =>
        have hbf' := hbf rfl
        have hRc := HRW.out.below hbc
        obtain ⟨x, hx, hxs, xa, xm, xc, rfl⟩ := slice_from hRc.row hk
        have c1 := hRc.rb.cells
        have hdrop : (ns.drop k).length ≤ 1000 := by rw [List.length_drop]; omega
        have hslD : Sl (ns.drop k) := fun m hm => hRc.sl m (List.mem_of_mem_drop hm)
        have HXS := hide' (And.intro hxs hslD)
        have HBF := hide' hbf'
        have HRC := hide' hRc
        have HBC := hide' hbc
        clear hbf hbt hbf' hRc hxs hslD hwc hbc
        go_upto_region 5 with (at_builtin; refine wpList_plain rfl fun _ hK => ?_; refine wp_append22 (v := .slice none 0 0) (xs := []) _ _ _ rfl rfl rfl (NOwn.nil _) HXS.out.1 HXS.out.2 (by simp only [List.length_nil]; omega) ?_; intro v4 w4 ho4 hg4 hat4; refine hK _ _ ?_)
        rw [List.nil_append] at ho4
        have hb4 : Below wc.heap.size wc w4 := ⟨hg4.os, hg4.tape, hg4.output, hg4.size, fun k hk => hg4.block k hk fun e => by cases e⟩
        have hW4 : ∀ b, b < wc.heap.size → w4.drew.heap[b]? = wc.heap[b]? := fun b hb => hb4.block b hb
        have hcs := HBC.out.size
        have hR4 : RfAt w4 S R (.slice va ns.length vc) ns clk rm := HRC.out.below hb4
        have hB4 : Below w.heap.size w w4 := HBW.out.trans ((HBC.out.mono HBW.out.size).trans (hb4.mono (Nat.le_trans HBW.out.size hcs)))
        have z4 : w4.heap[w.heap.size]? = some (.cells #[.string (mk n.path), .bool n.nd.dir, .int .i64 n.nd.time, .slice da dl dc] 55 (0, 0)) := (hb4.block _ (by omega)).trans ((HBC.out.block _ (by omega)).trans ((HBR.out.block w.heap.size (by omega)).trans HZ0.out))
        obtain ⟨y, hy, hyo, hyb, ya, ym, yc, rfl⟩ := slice_to hR4.row hk
        have hvg : ∀ g, (Value.slice va ns.length vc).ownBlock = some g → S g ∧ g < w.heap.size := fun g hg => ⟨H.out.sV g hg, H.out.row.lt g hg⟩
        have hRlt : R < w.heap.size := lt_of_block H.out.rb
        have hRb4 := hR4.rb
        have hat4' : ∀ g, v4.ownBlock = some g → w.heap.size < g := fun g hg => by
          rcases hat4 with h | h
          · rw [h] at hg; cases hg
          · rw [h] at hg; cases hg; omega
        obtain ⟨v4a, v4c, hv4⟩ := ho4.len
        obtain ⟨W4, hWW⟩ : ∃ W4, W4 = w4.drew := ⟨_, rfl⟩
        have hC4 : PtC R w.heap.size (.slice va ns.length vc) ⟨n.path, .slice da dl dc, n.nd⟩ W4 := by
          rw [hWW]
          exact ⟨hR4.rb.cells, by show w4.cell? _ = _; rw [Lib.cell_of_heap z4]; rfl, by show w4.cell? _ = _; rw [Lib.cell_of_heap z4]; rfl, by show w4.cell? _ = _; rw [Lib.cell_of_heap z4]; rfl, by show w4.cell? _ = _; rw [Lib.cell_of_heap z4]; rfl⟩
        have hB4' : Below w.heap.size w W4 := by rw [hWW]; exact ⟨hB4.os, hB4.tape, hB4.output, hB4.size, hB4.block⟩
        have hyo' : NOwn W4 (.slice ya ym yc) (ns.take k) := by rw [hWW]; exact hyo.kept fun _ _ => rfl
        have ho4' : NOwn W4 v4 (ns.drop k) := by rw [hWW]; exact ho4.kept fun _ _ => rfl
        have hR4' : RfAt W4 S R (.slice va ns.length vc) ns clk rm := by rw [hWW]; exact hR4.apart fun _ _ => rfl
        have hn4 : Dat W4 n.dv n.nd.data := HN.out.kept fun g hg => hB4'.block g (HN.out.lt g hg)
        have hs4 : w.heap.size < W4.heap.size := by rw [hWW]; show _ < w4.heap.size; have := hb4.size; omega
        have HC4 := hide' hC4
        have HYO := hide' hyo'
        have HO4 := hide' ho4'
        have HR4 := hide' hR4'
        have HN4 := hide' hn4
        have HB4 := hide' hB4'
        have HVG := hide' hvg
        have HAT4 := hide' hat4'
        have HYB := hide' hyb
        rw [List.length_drop] at hv4
        subst hv4
        clear hC4 hyo' ho4' hR4' hn4 hB4' hvg hat4' hyb hyo ho4 hR4 hB4 hb4 hg4 hat4 z4 hW4 hRb4 d0 d1 d2 d3 c0 c1 HXS hx
        refine wp_region_classX [14] (C := PtC R w.heap.size (.slice va ns.length vc) ⟨n.path, .slice da dl dc, n.nd⟩) (by kernel_rfl) ?_
        rw [← hWW]
        clear hWW
        (refine wpAnyX_take (i := 0) (v := ?_) HC4.out rfl (by kernel_rfl) (by kernel_rfl) (by kernel_rfl) (by kernel_rfl) (fun _ _ _ h => h) (Or.inl ⟨by kernel_rfl, ?_⟩) ?_; rotate_left; (intro w hc; have k0 := hc.c0; have k1 := hc.d0; have k2 := hc.d1; have k3 := hc.d2; have k4 := hc.d3; clear hc; go_simp; try with_reducible rfl))
        (refine wpAnyX_take (i := 1) (v := ?_) HC4.out rfl (by kernel_rfl) (by kernel_rfl) (by kernel_rfl) (by kernel_rfl) (fun _ _ _ h => h) (Or.inl ⟨by kernel_rfl, ?_⟩) ?_; rotate_left; (intro w hc; have k0 := hc.c0; have k1 := hc.d0; have k2 := hc.d1; have k3 := hc.d2; have k4 := hc.d3; clear hc; go_simp; try with_reducible rfl))
        (refine wpAnyX_take (i := 2) (v := ?_) HC4.out rfl (by kernel_rfl) (by kernel_rfl) (by kernel_rfl) (by kernel_rfl) (fun _ _ _ h => h) (Or.inl ⟨by kernel_rfl, ?_⟩) ?_; rotate_left; (intro w hc; have k0 := hc.c0; have k1 := hc.d0; have k2 := hc.d1; have k3 := hc.d2; have k4 := hc.d3; clear hc; go_simp; try with_reducible rfl))
        (refine wpAnyX_take (i := 3) (v := ?_) HC4.out rfl (by kernel_rfl) (by kernel_rfl) (by kernel_rfl) (by kernel_rfl) (fun _ _ _ h => h) (Or.inl ⟨by kernel_rfl, ?_⟩) ?_; rotate_left; (intro w hc; have k0 := hc.c0; have k1 := hc.d0; have k2 := hc.d1; have k3 := hc.d2; have k4 := hc.d3; clear hc; go_simp; try with_reducible rfl))
        (refine wpAnyX_take (i := 4) (v := ?_) HC4.out rfl (by kernel_rfl) (by kernel_rfl) (by kernel_rfl) (by kernel_rfl) (fun _ _ _ h => h) (Or.inl ⟨by kernel_rfl, ?_⟩) ?_; rotate_left; (intro w hc; have k0 := hc.c0; have k1 := hc.d0; have k2 := hc.d1; have k3 := hc.d2; have k4 := hc.d3; clear hc; go_simp; try with_reducible rfl))
        (refine wpAnyX_take (i := 5) (v := ?_) HC4.out rfl (by kernel_rfl) (by kernel_rfl) (by kernel_rfl) (by kernel_rfl) (fun _ _ _ h => h) (Or.inl ⟨by kernel_rfl, ?_⟩) ?_; rotate_left; (intro w hc; have k0 := hc.c0; have k1 := hc.d0; have k2 := hc.d1; have k3 := hc.d2; have k4 := hc.d3; clear hc; go_simp; try with_reducible rfl))
        (refine wpAnyX_take (i := 6) (v := ?_) HC4.out rfl (by kernel_rfl) (by kernel_rfl) (by kernel_rfl) (by kernel_rfl) (fun _ _ _ h => h) (Or.inl ⟨by kernel_rfl, ?_⟩) ?_; rotate_left; (intro w hc; have k0 := hc.c0; have k1 := hc.d0; have k2 := hc.d1; have k3 := hc.d2; have k4 := hc.d3; clear hc; go_simp; try with_reducible rfl))
        (refine wpAnyX_take (i := 7) (v := ?_) HC4.out rfl (by kernel_rfl) (by kernel_rfl) (by kernel_rfl) (by kernel_rfl) (fun _ _ _ h => h) (Or.inl ⟨by kernel_rfl, ?_⟩) ?_; rotate_left; (intro w hc; have k0 := hc.c0; have k1 := hc.d0; have k2 := hc.d1; have k3 := hc.d2; have k4 := hc.d3; clear hc; go_simp; try with_reducible rfl))
        (refine wpAnyX_take (i := 10) (v := ?_) HC4.out rfl (by kernel_rfl) (by kernel_rfl) (by kernel_rfl) (by kernel_rfl) (fun _ _ _ h => h) (Or.inl ⟨by kernel_rfl, ?_⟩) ?_; rotate_left; (intro w hc; have k0 := hc.c0; have k1 := hc.d0; have k2 := hc.d1; have k3 := hc.d2; have k4 := hc.d3; clear hc; go_simp; try with_reducible rfl))
        refine wpAnyX_one (i := 8) (by kernel_rfl) (wpOp_wanted rfl (by rfl) ?_)
        obtain ⟨W8, hW8⟩ : ∃ W8, W8 = W4.alloc (.cells #[.string (mk n.path), .bool n.nd.dir, .int .i64 n.nd.time, .slice da dl dc] 55) := ⟨_, rfl⟩
        have hb8 : Below W4.heap.size W4 W8 := by rw [hW8]; exact (Below.refl _ _).alloc (Nat.le_refl _) _
        have z8 : W8.heap[W4.heap.size]? = some (.cells #[.string (mk n.path), .bool n.nd.dir, .int .i64 n.nd.time, .slice da dl dc] 55 (0, 0)) := by rw [hW8]; exact alloc_new _ _
        have hs8 : W4.heap.size < W8.heap.size := by rw [hW8]; simp
        have cK : ∀ {w1 w2 : World}, PtC R w.heap.size (.slice va ns.length vc) ⟨n.path, .slice da dl dc, n.nd⟩ w1 → w2.heap[R]? = w1.heap[R]? → w2.heap[w.heap.size]? = w1.heap[w.heap.size]? → PtC R w.heap.size (.slice va ns.length vc) ⟨n.path, .slice da dl dc, n.nd⟩ w2 := fun h hR hw => ⟨(World.cell?_of_block (a := ⟨R, 0, none⟩) hR).trans h.c0, (World.cell?_of_block (a := ⟨w.heap.size, 0, none⟩) hw).trans h.d0, (World.cell?_of_block (a := ⟨w.heap.size, 1, none⟩) hw).trans h.d1, (World.cell?_of_block (a := ⟨w.heap.size, 2, none⟩) hw).trans h.d2, (World.cell?_of_block (a := ⟨w.heap.size, 3, none⟩) hw).trans h.d3⟩
        have hC8 : PtC R w.heap.size (.slice va ns.length vc) ⟨n.path, .slice da dl dc, n.nd⟩ W8 := cK HC4.out (hb8.block R (by omega)) (hb8.block _ (by omega))
        rw [hW8] at hC8
        go_simp
        rw [← hW8] at hC8 ⊢
        have HC8 := hide' hC8
        have hy8 : NOwn W8 (.slice ya ym yc) (ns.take k) := HYO.out.kept fun g hg => hb8.block g (HYO.out.lt g hg)
        have hsrc8 : NSrc W8 (.slice (some ⟨W4.heap.size, 0, none⟩) 1 1) [n] := .inr ⟨_, _, rfl, fun j u hj => by
          rw [add_zero, Lib.cell_of_heap z8]
          have e1 : flat [n] = cellsN n := by simp [flat]
          rw [e1] at hj
          unfold cellsN at hj
          rw [HDV.out] at hj
          simpa using hj⟩
        have hsl8 : Sl [n] := fun m hm => by rw [List.mem_singleton.1 hm, HDV.out]; exact ⟨_, _, _, rfl⟩
        clear hW8 hC8
        refine wpAnyX_one (i := 9) (by kernel_rfl) (wpOp_wanted rfl (by rfl) ?_)
        refine wp_append22 (v := .slice ya ym yc) (x := .slice (some ⟨W4.heap.size, 0, none⟩) 1 1) _ _ _ rfl rfl rfl hy8 hsrc8 hsl8 (by rw [List.length_take]; simp; omega) ?_
        intro v9 w9 ho9 hg9 hat9
        rw [HYB.out] at hg9 hat9
        have hRg : ∀ {g}, (Value.slice va ns.length vc).ownBlock = some g → R ≠ g := fun hg e => HR4.out.row.ne_rb HR4.out.rb _ hg e.symm
        have n1 : some R ≠ (Value.slice va ns.length vc).ownBlock := fun e => hRg e.symm rfl
        have n2 : some w.heap.size ≠ (Value.slice va ns.length vc).ownBlock := fun e => by have := (HVG.out _ e.symm).2; omega
        have hC9 : PtC R w.heap.size (.slice va ns.length vc) ⟨n.path, .slice da dl dc, n.nd⟩ w9 := cK HC8.out (hg9.block R (by omega) n1) (hg9.block _ (by omega) n2)
        have hs9 := hg9.size
        have hat9' : ∀ g, v9.ownBlock = some g → ((Value.slice va ns.length vc).ownBlock = some g) ∨ w.heap.size < g := fun g hg => by
          rcases hat9 with h | h
          · rw [h] at hg; exact .inl hg
          · rw [h] at hg; cases hg; exact .inr (by omega)
        refine ⟨fun _ => hC9, ?_⟩
        have h4g : ∀ g, (Value.slice v4a (ns.length - k) v4c).ownBlock = some g → some g ≠ (Value.slice va ns.length vc).ownBlock := fun g hg e => by have h1 := HAT4.out g hg; have h2 := (HVG.out g e.symm).2; omega
        have ho49 : NOwn w9 (.slice v4a (ns.length - k) v4c) (ns.drop k) := HO4.out.kept fun g hg => (hg9.block g (by have := HO4.out.lt g hg; omega) (h4g g hg)).trans (hb8.block g (HO4.out.lt g hg))
        have hslD : Sl (ns.drop k) := fun m hm => HRC.out.sl m (List.mem_of_mem_drop hm)
        refine wpAnyX_one (i := 11) (by kernel_rfl) (wpOp_wanted rfl (by rfl) ?_)
        refine wp_append22 (v := v9) (x := .slice v4a (ns.length - k) v4c) _ _ _ rfl rfl rfl ho9 ho49.src hslD (by rw [List.length_append, List.length_take, List.length_drop]; simp; omega) ?_
        intro v11 w11 ho11 hg11 hat11
        have n3 : some R ≠ v9.ownBlock := fun e => by
          rcases hat9' R e.symm with h | h
          · exact n1 h.symm
          · omega
        have n4 : some w.heap.size ≠ v9.ownBlock := fun e => by
          rcases hat9' _ e.symm with h | h
          · exact n2 h.symm
          · omega
        have hC11 : PtC R w.heap.size (.slice va ns.length vc) ⟨n.path, .slice da dl dc, n.nd⟩ w11 := cK hC9 (hg11.block R (by omega) n3) (hg11.block _ (by omega) n4)
        have hs11 := hg11.size
        have hR11 : w11.heap[R]? = some (.cells #[.slice va ns.length vc, .int .i64 clk, .int .i64 rm] 61 (0, 0)) := (hg11.block R (by omega) n3).trans ((hg9.block R (by omega) n1).trans ((hb8.block R (by omega)).trans HR4.out.rb))
        have f11 := Lib.frozen_of_heap hR11 0
        have c11 : w11.cell? ⟨R, 0, none⟩ = some (.slice va ns.length vc) := by rw [Lib.cell_of_heap hR11]; rfl
        obtain ⟨v11a, v11c, hv11⟩ := ho11.len
        generalize hnn : (List.take k ns ++ [n] ++ List.drop k ns).length = nn at hv11
        subst hv11
        refine ⟨fun _ => hC11, ?_⟩
        have HC11 := hide' hC11
        clear hC11 hC9 HC8 hsrc8
        refine wpAnyX_one (i := 12) (by kernel_rfl) (wpOp_wanted rfl (by rfl) ?_)
        have hc11 := HC11.out
        go_simp
        refine wpAnyX_one (i := 13) (by kernel_rfl) (wpOp_wanted rfl (by rfl) ?_)
        go_simp
        refine wpAnyX_one (i := 14) (by kernel_rfl) (wpOp_wanted rfl (by rfl) ?_)
        go_simp
        refine wpAnyX_done (by kernel_rfl) ?_ _
        obtain ⟨w12, hw12⟩ : ∃ w12, w12 = w11.setCell ⟨R, 0, none⟩ (.slice v11a nn v11c) := ⟨_, rfl⟩
        rw [← hw12]
        have hset : ∀ b, b ≠ R → w12.heap[b]? = w11.heap[b]? := fun b hb => by rw [hw12]; exact Below.heap_setCell w11 ⟨R, 0, none⟩ _ b (by simpa using hb)
        have hR12 : w12.heap[R]? = some (.cells #[.slice v11a nn v11c, .int .i64 clk, .int .i64 rm] 61 (0, 0)) := by rw [hw12]; exact set_row hR11 0 _
        have hs12 : w12.heap.size = w11.heap.size := by rw [hw12]; simp
        have hos12 : w12.os = w11.os ∧ w12.tape = w11.tape ∧ w12.output = w11.output := by rw [hw12]; exact ⟨rfl, rfl, rfl⟩
        have hat11' : ∀ g, (Value.slice v11a nn v11c).ownBlock = some g → ((Value.slice va ns.length vc).ownBlock = some g) ∨ w.heap.size < g := fun g hg => by
          rcases hat11 with h | h
          · rw [h] at hg; exact hat9' g hg
          · rw [h] at hg; cases hg; exact .inr (by omega)
        have hdat : ∀ m bs, Dat W4 m bs → Dat w12 m bs := fun m bs hd => by
          have h8 : Dat W8 m bs := hd.kept fun g hg => hb8.block g (hd.lt g hg)
          have h9 : Dat w9 m bs := h8.kept fun g hg => hg9.block g (h8.lt g hg) fun e => hy8.ne_dat h8 g (by rw [HYB.out]; exact e.symm) hg
          have h11 : Dat w11 m bs := h9.kept fun g hg => hg11.block g (h9.lt g hg) fun e => ho9.ne_dat h9 g e.symm hg
          have hRb11 : Rb w11 R (.slice va ns.length vc) clk rm := hR11
          exact h11.kept fun g hg => hset g (dat_ne_rb h11 hRb11 g hg)
        have hT : Turn (fun i => S i ∨ w.heap.size ≤ i) w w12 := by
          have t1 : Turn (fun i => S i ∨ w.heap.size ≤ i) w W8 := Turn.of_below (HB4.out.trans (hb8.mono HB4.out.size))
          have t2 : Turn (fun i => S i ∨ w.heap.size ≤ i) W8 w9 := Turn.of_grown hg9 fun g e => .inl (HVG.out g e).1
          have t3 : Turn (fun i => S i ∨ w.heap.size ≤ i) w9 w11 := Turn.of_grown hg11 fun g e => by
            rcases hat9' g e with h | h
            · exact .inl (HVG.out g h).1
            · exact .inr (by omega)
          have t4 : Turn (fun i => S i ∨ w.heap.size ≤ i) w11 w12 := ⟨hos12.1, hos12.2.1, hos12.2.2, Nat.le_of_eq hs12.symm, fun b _ hn => hset b fun e => hn (.inl (by rw [e]; exact H.out.sR))⟩
          exact ((t1.trans' t2).trans' t3).trans' t4
        have hTS : Turn S w w12 := (Turn.refl S w).trans hT fun i hi => hi
        have hmap : (List.take k ns ++ [n] ++ List.drop k ns).map toE = put (ns.map toE) n.path n.nd := by
          rw [put_at (k := k) n.nd HNO.out (by rw [List.length_map]; exact hk) (fun i e he hi => HLO.out i e he hi) (fun i e he hi => by subst hi; exact HBF.out e he)]
          simp [toE]
        have hend : RfAt w12 (fun i => S i ∨ w.heap.size ≤ i) R (.slice v11a nn v11c) (List.take k ns ++ [n] ++ List.drop k ns) clk rm := by
          refine ⟨hR12, ho11.kept fun g hg => hset g fun e => ?_, fun m hm => ?_, .inl H.out.sR, fun g hg => ?_, fun m hm g hg => ?_⟩
          · rcases hat11' g hg with h | h
            · exact hRg h e.symm
            · omega
          · have hm' : m = n ∨ m ∈ ns := by
              simp only [List.mem_append, List.mem_singleton] at hm
              rcases hm with (h | h) | h
              · exact .inr (List.mem_of_mem_take h)
              · exact .inl h
              · exact .inr (List.mem_of_mem_drop h)
            rcases hm' with rfl | h
            · exact hdat _ _ HN4.out
            · exact hdat _ _ (HR4.out.dat m h)
          · rcases hat11' g hg with h | h
            · exact .inl (HVG.out g h).1
            · exact .inr (by omega)
          · have hm' : m = n ∨ m ∈ ns := by
              simp only [List.mem_append, List.mem_singleton] at hm
              rcases hm with (h | h) | h
              · exact .inr (List.mem_of_mem_take h)
              · exact .inl h
              · exact .inr (List.mem_of_mem_drop h)
            rcases hm' with rfl | h
            · exact .inl (HNS.out g hg)
            · exact .inl (H.out.sD m h g hg)
        have HEND := hide' (And.intro hend (And.intro hmap hTS))
        clear hend hmap hTS hT hdat
        go_wp2
        go_end0
        exact ⟨rfl, _, _, _, HEND.out.1, HEND.out.2.1, HEND.out.2.2, fun i hi => hi⟩
end Go.Proofs.YtpbfhbnkalambaaGreatDoor
namespace Go.Proofs.YtpbfhbnkalambaaGreatDoor
open Go.RowKit Go.Maps

structure DpC (R : Nat) (v : Value) (w : World) : Prop where
  c0 : w.cell? ⟨R, 0, none⟩ = some v
set_option maxRecDepth 100000 in
set_option maxHeartbeats 4000000 in
theorem rdrop_own (S : Nat → Prop) (R : Nat) (v : Value) (ns : List Nv) (k : Nat) (clk rm : Int) (w : World) (h : RfAt w S R v ns clk rm) (hl : ns.length ≤ 1000) (hk : k < ns.length) :
    Calls Tryz.prog 74 #[.pointer (some ⟨R, 0, none⟩), .int .i64 k] w fun r w' => r = .returned (.tuple #[]) ∧ ∃ v' S', RfAt w' S' R v' (ns.take k ++ ns.drop (k + 1)) clk rm ∧ Turn (fun i => i = R) w w' ∧ ∀ i, S' i → S i ∨ w.heap.size ≤ i := by
  obtain ⟨va, vc, hv⟩ := h.row.len
  subst hv
  obtain ⟨W4, hWW⟩ : ∃ W4, W4 = w.drew := ⟨_, rfl⟩
  have hR4 : RfAt W4 S R (.slice va ns.length vc) ns clk rm := by rw [hWW]; exact h.apart fun _ _ => rfl
  have hB4 : Below w.heap.size w W4 := by rw [hWW]; exact ⟨rfl, rfl, rfl, Nat.le_refl _, fun _ _ => rfl⟩
  have hs4 : w.heap.size ≤ W4.heap.size := by rw [hWW]; exact Nat.le_refl _
  obtain ⟨y, hy, hyo, hyb, ya, ym, yc, rfl⟩ := slice_to hR4.row (Nat.le_of_lt hk)
  obtain ⟨x, hx, hxs, xa, xm, xc, rfl⟩ := slice_from hR4.row (k := k + 1) hk
  have hx' : ∀ W : World, (Instr.slice 22 (.slice va ns.length vc) (some (.int .i64 ((k : Int) + 1))) none none).run Tryz.prog W = .ok (.slice xa xm xc) W := fun W => by have := hx W; simpa using this
  have hC4 : DpC R (.slice va ns.length vc) W4 := ⟨hR4.rb.cells⟩
  have hslT : Sl (ns.take k) := fun m hm => h.sl m (List.mem_of_mem_take hm)
  have hslD : Sl (ns.drop (k + 1)) := fun m hm => h.sl m (List.mem_of_mem_drop hm)
  have hRlt : R < w.heap.size := lt_of_block h.rb
  have cK : ∀ {w1 w2 : World}, DpC R (.slice va ns.length vc) w1 → w2.heap[R]? = w1.heap[R]? → DpC R (.slice va ns.length vc) w2 := fun h hR => ⟨(World.cell?_of_block (a := ⟨R, 0, none⟩) hR).trans h.c0⟩

  have hwr : IntKind.i64.wrap ((k : Int) + 1) = (k : Int) + 1 := i64_id _ (by omega)
  have H := hide' h
  have HC4 := hide' hC4
  have HR4 := hide' hR4
  have HB4 := hide' hB4
  have HYS := hide' hyo.src
  have HXS := hide' hxs
  clear h hC4 hR4 hB4 hyo hxs hyb
  go_enter Tryz.func74, Tryz.ntmps74
  go_upto_region 0 with fail
  refine wp_region_classX [18] (C := DpC R (.slice va ns.length vc)) (by kernel_rfl) ?_
  rw [← hWW]
  clear hWW
  (refine wpAnyX_take (i := 0) (v := ?_) HC4.out rfl (by kernel_rfl) (by kernel_rfl) (by kernel_rfl) (by kernel_rfl) (fun _ _ _ h => h) (Or.inl ⟨by kernel_rfl, ?_⟩) ?_; rotate_left; (intro w hc; have k0 := hc.c0; clear hc; go_simp; try with_reducible rfl))
  (refine wpAnyX_take (i := 1) (v := ?_) HC4.out rfl (by kernel_rfl) (by kernel_rfl) (by kernel_rfl) (by kernel_rfl) (fun _ _ _ h => h) (Or.inl ⟨by kernel_rfl, ?_⟩) ?_; rotate_left; (intro w hc; have k0 := hc.c0; clear hc; go_simp; try with_reducible rfl))
  (refine wpAnyX_take (i := 2) (v := ?_) HC4.out rfl (by kernel_rfl) (by kernel_rfl) (by kernel_rfl) (by kernel_rfl) (fun _ _ _ h => h) (Or.inl ⟨by kernel_rfl, ?_⟩) ?_; rotate_left; (intro w hc; have k0 := hc.c0; clear hc; go_simp; try with_reducible rfl))
  (refine wpAnyX_take (i := 3) (v := ?_) HC4.out rfl (by kernel_rfl) (by kernel_rfl) (by kernel_rfl) (by kernel_rfl) (fun _ _ _ h => h) (Or.inl ⟨by kernel_rfl, ?_⟩) ?_; rotate_left; (intro w hc; have k0 := hc.c0; clear hc; go_simp; try with_reducible rfl))
  (refine wpAnyX_take (i := 4) (v := ?_) HC4.out rfl (by kernel_rfl) (by kernel_rfl) (by kernel_rfl) (by kernel_rfl) (fun _ _ _ h => h) (Or.inl ⟨by kernel_rfl, ?_⟩) ?_; rotate_left; (intro w hc; have k0 := hc.c0; clear hc; go_simp; try with_reducible rfl))
  go_simp
  (refine wpAnyX_take (i := 5) (v := ?_) HC4.out rfl (by kernel_rfl) (by kernel_rfl) (by kernel_rfl) (by kernel_rfl) (fun _ _ _ h => h) (Or.inl ⟨by kernel_rfl, ?_⟩) ?_; rotate_left; (intro w hc; have k0 := hc.c0; clear hc; go_simp; try with_reducible rfl))
  (refine wpAnyX_take (i := 6) (v := ?_) HC4.out rfl (by kernel_rfl) (by kernel_rfl) (by kernel_rfl) (by kernel_rfl) (fun _ _ _ h => h) (Or.inl ⟨by kernel_rfl, ?_⟩) ?_; rotate_left; (intro w hc; have k0 := hc.c0; clear hc; go_simp; try with_reducible rfl))
  (refine wpAnyX_take (i := 8) (v := ?_) HC4.out rfl (by kernel_rfl) (by kernel_rfl) (by kernel_rfl) (by kernel_rfl) (fun _ _ _ h => h) (Or.inl ⟨by kernel_rfl, ?_⟩) ?_; rotate_left; (intro w hc; have k0 := hc.c0; clear hc; go_simp; try with_reducible rfl))
  (refine wpAnyX_take (i := 9) (v := ?_) HC4.out rfl (by kernel_rfl) (by kernel_rfl) (by kernel_rfl) (by kernel_rfl) (fun _ _ _ h => h) (Or.inl ⟨by kernel_rfl, ?_⟩) ?_; rotate_left; (intro w hc; have k0 := hc.c0; clear hc; go_simp; try with_reducible rfl))
  (refine wpAnyX_take (i := 10) (v := ?_) HC4.out rfl (by kernel_rfl) (by kernel_rfl) (by kernel_rfl) (by kernel_rfl) (fun _ _ _ h => h) (Or.inl ⟨by kernel_rfl, ?_⟩) ?_; rotate_left; (intro w hc; have k0 := hc.c0; clear hc; go_simp; try with_reducible rfl))
  go_simp
  (refine wpAnyX_take (i := 11) (v := ?_) HC4.out rfl (by kernel_rfl) (by kernel_rfl) (by kernel_rfl) (by kernel_rfl) (fun _ _ _ h => h) (Or.inl ⟨by kernel_rfl, ?_⟩) ?_; rotate_left; (intro w hc; have k0 := hc.c0; clear hc; go_simp; try with_reducible rfl))
  (refine wpAnyX_take (i := 12) (v := ?_) HC4.out rfl (by kernel_rfl) (by kernel_rfl) (by kernel_rfl) (by kernel_rfl) (fun _ _ _ h => h) (Or.inl ⟨by kernel_rfl, ?_⟩) ?_; rotate_left; (intro w hc; have k0 := hc.c0; clear hc; go_simp; try with_reducible rfl))
  (refine wpAnyX_take (i := 13) (v := ?_) HC4.out rfl (by kernel_rfl) (by kernel_rfl) (by kernel_rfl) (by kernel_rfl) (fun _ _ _ h => h) (Or.inl ⟨by kernel_rfl, ?_⟩) ?_; rotate_left; (intro w hc; have k0 := hc.c0; clear hc; go_simp; try with_reducible rfl))
  (refine wpAnyX_take (i := 14) (v := ?_) HC4.out rfl (by kernel_rfl) (by kernel_rfl) (by kernel_rfl) (by kernel_rfl) (fun _ _ _ h => h) (Or.inl ⟨by kernel_rfl, ?_⟩) ?_; rotate_left; (intro w hc; have k0 := hc.c0; clear hc; go_simp; try with_reducible rfl))
  go_simp
  clear hx hx' hy hwr
  refine wpAnyX_one (i := 7) (by kernel_rfl) (wpOp_wanted rfl (by rfl) ?_)
  refine wp_append22 (v := .slice none 0 0) (xs := []) (x := .slice ya ym yc) _ _ _ rfl rfl rfl (NOwn.nil _) HYS.out hslT (by rw [List.length_take]; simp; omega) ?_
  intro v9 w9 ho9 hg9 hat9
  rw [List.nil_append] at ho9
  have n1 : some R ≠ (Value.slice none 0 0).ownBlock := fun e => by cases e
  have hC9 : DpC R (.slice va ns.length vc) w9 := cK HC4.out (hg9.block R (by omega) n1)
  have hs9 := hg9.size
  have hat9' : ∀ g, v9.ownBlock = some g → w.heap.size ≤ g := fun g hg => by
    rcases hat9 with h | h
    · rw [h] at hg; cases hg
    · rw [h] at hg; cases hg; omega
  have hk9 : ∀ b, b < W4.heap.size → w9.heap[b]? = W4.heap[b]? := fun b hb => hg9.block b hb fun e => by cases e
  refine ⟨fun _ => hC9, ?_⟩
  have hxs9 : NSrc w9 (.slice xa xm xc) (ns.drop (k + 1)) := by
    rcases HXS.out with h1 | ⟨a, c, e, hc⟩
    · exact .inl h1
    · exact .inr ⟨a, c, e, fun j u hj => (World.cell?_of_block (a := a.add j) (hk9 _ (World.block_lt_of_cell? _ _ (hc j u hj)))).trans (hc j u hj)⟩
  refine wpAnyX_one (i := 15) (by kernel_rfl) (wpOp_wanted rfl (by rfl) ?_)
  refine wp_append22 (v := v9) (x := .slice xa xm xc) _ _ _ rfl rfl rfl ho9 hxs9 hslD (by rw [List.length_take, List.length_drop]; omega) ?_
  intro v11 w11 ho11 hg11 hat11
  have n3 : some R ≠ v9.ownBlock := fun e => by have := hat9' R e.symm; omega
  have hC11 : DpC R (.slice va ns.length vc) w11 := cK hC9 (hg11.block R (by omega) n3)
  have hs11 := hg11.size
  have hR11 : w11.heap[R]? = some (.cells #[.slice va ns.length vc, .int .i64 clk, .int .i64 rm] 61 (0, 0)) := (hg11.block R (by omega) n3).trans ((hk9 R (by omega)).trans HR4.out.rb)
  have f11 := Lib.frozen_of_heap hR11 0
  have c11 : w11.cell? ⟨R, 0, none⟩ = some (.slice va ns.length vc) := by rw [Lib.cell_of_heap hR11]; rfl
  obtain ⟨v11a, v11c, hv11⟩ := ho11.len
  generalize hnn : (List.take k ns ++ List.drop (k + 1) ns).length = nn at hv11
  subst hv11
  refine ⟨fun _ => hC11, ?_⟩
  have HC11 := hide' hC11
  clear hC11 hC9
  refine wpAnyX_one (i := 16) (by kernel_rfl) (wpOp_wanted rfl (by rfl) ?_)
  have hc11 := HC11.out
  go_simp
  refine wpAnyX_one (i := 17) (by kernel_rfl) (wpOp_wanted rfl (by rfl) ?_)
  go_simp
  refine wpAnyX_one (i := 18) (by kernel_rfl) (wpOp_wanted rfl (by rfl) ?_)
  go_simp
  refine wpAnyX_done (by kernel_rfl) ?_ _
  obtain ⟨w12, hw12⟩ : ∃ w12, w12 = w11.setCell ⟨R, 0, none⟩ (.slice v11a nn v11c) := ⟨_, rfl⟩
  rw [← hw12]
  have hset : ∀ b, b ≠ R → w12.heap[b]? = w11.heap[b]? := fun b hb => by rw [hw12]; exact Below.heap_setCell w11 ⟨R, 0, none⟩ _ b (by simpa using hb)
  have hR12 : w12.heap[R]? = some (.cells #[.slice v11a nn v11c, .int .i64 clk, .int .i64 rm] 61 (0, 0)) := by rw [hw12]; exact set_row hR11 0 _
  have hs12 : w12.heap.size = w11.heap.size := by rw [hw12]; simp
  have hos12 : w12.os = w11.os ∧ w12.tape = w11.tape ∧ w12.output = w11.output := by rw [hw12]; exact ⟨rfl, rfl, rfl⟩
  have hat11' : ∀ g, (Value.slice v11a nn v11c).ownBlock = some g → w.heap.size ≤ g := fun g hg => by
    rcases hat11 with h | h
    · rw [h] at hg; exact hat9' g hg
    · rw [h] at hg; cases hg; omega
  have hdat : ∀ m bs, Dat W4 m bs → Dat w12 m bs := fun m bs hd => by
    have h9 : Dat w9 m bs := hd.kept fun g hg => hk9 g (hd.lt g hg)
    have h11 : Dat w11 m bs := h9.kept fun g hg => hg11.block g (h9.lt g hg) fun e => ho9.ne_dat h9 g e.symm hg
    have hRb11 : Rb w11 R (.slice va ns.length vc) clk rm := hR11
    exact h11.kept fun g hg => hset g (dat_ne_rb h11 hRb11 g hg)
  have hT : Turn (fun i => i = R ∨ w.heap.size ≤ i) w w12 := by
    have t1 : Turn (fun i => i = R ∨ w.heap.size ≤ i) w W4 := Turn.of_below HB4.out
    have t2 : Turn (fun i => i = R ∨ w.heap.size ≤ i) W4 w9 := Turn.of_grown hg9 fun g e => by cases e
    have t3 : Turn (fun i => i = R ∨ w.heap.size ≤ i) w9 w11 := Turn.of_grown hg11 fun g e => .inr (hat9' g e)
    have t4 : Turn (fun i => i = R ∨ w.heap.size ≤ i) w11 w12 := ⟨hos12.1, hos12.2.1, hos12.2.2, Nat.le_of_eq hs12.symm, fun b _ hn => hset b fun e => hn (.inl e)⟩
    exact ((t1.trans' t2).trans' t3).trans' t4
  have hTS : Turn (fun i => i = R) w w12 := (Turn.refl _ w).trans hT fun i hi => hi
  have hmem : ∀ m ∈ List.take k ns ++ List.drop (k + 1) ns, m ∈ ns := fun m hm => by
    rcases List.mem_append.1 hm with h | h
    · exact List.mem_of_mem_take h
    · exact List.mem_of_mem_drop h
  have hend : RfAt w12 (fun i => S i ∨ w.heap.size ≤ i) R (.slice v11a nn v11c) (List.take k ns ++ List.drop (k + 1) ns) clk rm := by
    refine ⟨hR12, ho11.kept fun g hg => hset g fun e => ?_, fun m hm => hdat _ _ (HR4.out.dat m (hmem m hm)), .inl H.out.sR, fun g hg => .inr (hat11' g hg), fun m hm g hg => .inl (H.out.sD m (hmem m hm) g hg)⟩
    have := hat11' g hg
    omega
  have HEND := hide' (And.intro hend hTS)
  clear hend hTS hT hdat
  go_wp2
  go_end0
  exact ⟨rfl, _, _, HEND.out.1, HEND.out.2, fun i hi => hi⟩
theorem rdrop_any (S : Nat → Prop) (R : Nat) (v : Value) (ns : List Nv) (k : Nat) (clk rm : Int) (w : World) (h : RfAt w S R v ns clk rm) (hl : ns.length ≤ 1000) (hk : k < ns.length) :
    Calls Tryz.prog 74 #[.pointer (some ⟨R, 0, none⟩), .int .i64 k] w fun r w' => r = .returned (.tuple #[]) ∧ ∃ v' S', RfAt w' S' R v' (ns.take k ++ ns.drop (k + 1)) clk rm ∧ Turn S w w' ∧ ∀ i, S' i → S i ∨ w.heap.size ≤ i :=
  (rdrop_own S R v ns k clk rm w h hl hk).mono fun _ _ ⟨hr, v', S', h1, h2, h3⟩ => ⟨hr, v', S', h1, h2.mono (fun _ e => e ▸ h.sR), h3⟩
end Go.Proofs.YtpbfhbnkalambaaGreatDoor
