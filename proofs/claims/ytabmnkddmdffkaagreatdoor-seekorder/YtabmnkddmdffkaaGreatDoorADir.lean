/- The contract of the iterator of seek.directories: the words of the pairs that are for the name, then those of dirs. -/
import Derived.Test.YtabmnkddmdffkaaGreatDoorAEach
import Derived.Test.YtabmnkddmdffkaaGreatDoorARep
import Derived.Test.YtabmnkddmdffkaaGreatDoorAZp
namespace Go.Proofs.YtabmnkddmdffkaaGreatDoor.Sk
open Go.RowKit Go.Shelf Tx
attribute [local go_sem] Oper.semAt_some

/-- where no depth is asked, a round may be had from any depth -/
theorem yield_any {m k l : Nat} {P : Program} {args : Array Value} {W : World} {R : Ending → World → Prop} (h : YieldAt Fence.wide m P l args W R) : YieldAt Fence.wide k P l args W R := by
  obtain ⟨fn, t, a, b, hy, hR⟩ := h
  exact ⟨fn, t, a, b, hy, hR.1, fun c cs _ => hR.2 c cs (room_wide _)⟩
theorem YieldsP.any {m k l N : Nat} {PL : List (List UInt8)} {J Jx : List Wd → World → Prop} (h : YieldsP m l N PL J Jx) : YieldsP k l N PL J Jx := fun pre x W1 h1 h2 h3 => yield_any (h pre x W1 h1 h2 h3)

abbrev Prw := ByteArray × ByteArray
/-- a slice of pairs -/
structure Prs (W : World) (a : Option Addr) (n : Nat) (L : List Prw) : Prop where
  hlen : n = L.length
  hat : ∀ j, j < n → ∃ b, a = some ⟨b, 0, none⟩ ∧ b < W.heap.size ∧ (∃ o, W.heap[b]? = some o ∧ isBook o = false) ∧ ∃ x : Prw, L[j]? = some x ∧ W.cell? ⟨b, j * 2, none⟩ = some (.string x.1) ∧ W.cell? ⟨b, j * 2 + 1, none⟩ = some (.string x.2)
/-- the base -/
abbrev bsC (a : Option Addr) (n cap : Nat) : Array Value := #[.slice none 0 0, .slice none 0 0, .slice a n cap, .slice none 0 0, .slice none 0 0, .string ⟨#[]⟩, .slice none 0 0]
/-- what the iterator has captured -/
structure DrC (W : World) (Bb Bn Bd : Nat) (a : Option Addr) (n cap : Nat) (L : List Prw) (name dirs : ByteArray) : Prop where
  base : W.heap[Bb]? = some (.cells (bsC a n cap) 43 (0, 0))
  nm : Boxed W Bn 9 (.string name)
  dr : Boxed W Bd 9 (.string dirs)
  prs : Prs W a n L
  mx : Mx W
/-- all that lies in no loop's book-keeping lies as it lay -/
structure Lies (A B : World) : Prop where
  size : A.heap.size ≤ B.heap.size
  low : ∀ (k : Nat) (o : Obj), A.heap[k]? = some o → isBook o = false → B.heap[k]? = some o
theorem Kp.lies {N : Nat} {A B : World} (h : Kp N A B) : Lies A B := ⟨h.size, h.low⟩
theorem Lies.below {A B : World} (h : Below A.heap.size A B) : Lies A B := (Kp.below (n := 0) h).lies
theorem Lies.trans {A B C : World} (h : Lies A B) (k : Lies B C) : Lies A C := ⟨Nat.le_trans h.size k.size, fun i o hi ho => k.low i o (h.low i o hi ho) ho⟩
theorem Lies.cell {A B : World} (h : Lies A B) {b j : Nat} {o : Obj} (ho : A.heap[b]? = some o) (hb : isBook o = false) : B.cell? ⟨b, j, none⟩ = A.cell? ⟨b, j, none⟩ := by
  simp only [World.cell?, h.low b o ho hb, ho]
theorem cell_obj {A : World} {b j : Nat} {v : Value} (h : A.cell? ⟨b, j, none⟩ = some v) : ∃ o, A.heap[b]? = some o ∧ isBook o = false := by
  cases ho : A.heap[b]? with
  | none => simp [World.cell?, ho] at h
  | some o => refine ⟨o, rfl, ?_⟩; cases o <;> first | rfl | (simp [World.cell?, ho] at h)
theorem Lies.cellv {A B : World} (h : Lies A B) {b j : Nat} {v : Value} (hc : A.cell? ⟨b, j, none⟩ = some v) : B.cell? ⟨b, j, none⟩ = some v := by
  obtain ⟨o, ho, hb⟩ := cell_obj hc
  rw [h.cell ho hb]; exact hc
theorem Prs.lies {A B : World} {a : Option Addr} {n : Nat} {L : List Prw} (h : Prs A a n L) (hl : Lies A B) : Prs B a n L :=
  ⟨h.hlen, fun j hj => by
    obtain ⟨b, e, h1, ⟨o, h2, h3⟩, x, h4, h5, h6⟩ := h.hat j hj
    exact ⟨b, e, Nat.lt_of_lt_of_le h1 hl.size, ⟨o, hl.low b o h2 h3, h3⟩, x, h4, hl.cellv h5, hl.cellv h6⟩⟩
theorem Mx.lies {A B : World} (h : Mx A) (hl : Lies A B) : Mx B := by
  obtain ⟨m, hm⟩ := h
  exact ⟨m, hl.cellv hm⟩
theorem DrC.lies {A B : World} {Bb Bn Bd : Nat} {a : Option Addr} {n cap : Nat} {L : List Prw} {name dirs : ByteArray} (h : DrC A Bb Bn Bd a n cap L name dirs) (hl : Lies A B) : DrC B Bb Bn Bd a n cap L name dirs :=
  ⟨hl.low _ _ h.base rfl, hl.low _ _ h.nm rfl, hl.low _ _ h.dr rfl, h.prs.lies hl, h.mx.lies hl⟩

theorem match_sk (p s : ByteArray) (w : World) (hp : p.size ≤ 1000000) (hs : s.size ≤ 1000000) :
    Calls Tryz.prog 86 #[.string p, .string s] w fun e w' => e = .returned (.tuple #[.string (mk (Pt.mt (tl p) (tl s)).1), .bool (Pt.mt (tl p) (tl s)).2]) ∧ Below w.heap.size w w' := Pt.pmatch_any p s w hp hs
/-- the words of one pair -/
def pW (nm : List UInt8) (p : Prw) : List (List UInt8) := if (Pt.mt (tl p.1) nm).2 then words (tl p.2) else []
/-- the directories, one by one -/
def dirL (L : List Prw) (nm dr : List UInt8) : List (List UInt8) := L.flatMap (pW nm) ++ words (cmap dr)

set_option maxRecDepth 100000 in
set_option maxHeartbeats 2000000 in
theorem dirs1_in (n l : Nat) (hn : 2 ≤ n) (Bb Bn Bd : Nat) (a : Option Addr) (m cap : Nat) (L : List Prw) (name dirs : ByteArray) (hm : m ≤ 1000000) (hns : name.size ≤ 1000000) (hds : dirs.size ≤ 1000000) (hls : ∀ p ∈ L, p.1.size ≤ 1000000 ∧ p.2.size ≤ 1000000)
    (J Jx : List Wd → World → Prop) (W : World) (hC : DrC W Bb Bn Bd a m cap L name dirs) (hJb : ∀ pre A B, J pre A → Below W.heap.size A B → J pre B)
    (hY : YieldsP (n - 1) l W.heap.size (dirL L (tl name) (tl dirs)) J Jx) (h0 : J [] W) :
    CallsIn Fence.wide n Tryz.prog 85 #[.func (.yield l) #[] #[], .pointer (some ⟨Bb, 0, none⟩), .pointer (some ⟨Bn, 0, none⟩), .pointer (some ⟨Bd, 0, none⟩)] W fun e W' => (∃ v, e = .returned v) ∧
      ((∃ ys : List Wd, ys.map bytesOf = dirL L (tl name) (tl dirs) ∧ J ys W') ∨ (∃ pre : List Wd, True ∧ Jx pre W')) := by
  have hn1 : 1 ≤ n := by omega
  have HY := hide' hY
  have HJ := hide' hJb
  have HC := hide' hC
  have HLS := hide' hls
  have c2 : W.cell? ⟨Bb, 2, none⟩ = some (.slice a m cap) := by rw [Lib.cell_of_heap hC.base]; rfl
  clear hY hJb hC hls
  refine callsIn_of_wp Tryz.func85 rfl trivial ?_ rfl
  simp only [Tryz.ntmps85, List.size_toArray, List.length_cons, List.length_nil, Nat.reduceAdd, Nat.reduceSub, Array.replicate_succ, Array.replicate_zero, List.push_toArray, List.append_toArray, List.nil_append, List.cons_append]
  gi_wp2
  gi_loopw [12] (fun p wr => ∃ (k : Nat) (pre : List Wd), k ≤ m ∧ p = .int .i64 k ∧ Kp W.heap.size W wr ∧ Hid (pre.map bytesOf = (L.take k).flatMap (pW (tl name))) ∧ J pre wr)
    (fun p _ => m - (intOf p).toNat)
  case atStart => exact ⟨0, [], Nat.zero_le _, rfl, Kp.refl _ _, rfl, h0⟩
  case round =>
    obtain ⟨k, pre, hk, rfl, hK, HP, hJs⟩ := hrel
    have hC := HC.out.lies hK.lies
    by_cases hlt : k < m
    · obtain ⟨b, rfl, hbs, _, x, hx, d1, d2⟩ := hC.prs.hat k hlt
      have cn := fun o => (hC.nm.alloc o).cell
      obtain ⟨x1, x2⟩ := x
      have hkl : k < L.length := by have := hC.prs.hlen; omega
      have hxk : L[k] = (x1, x2) := by rw [List.getElem?_eq_getElem hkl] at hx; exact Option.some.inj hx
      have hxs : x1.size ≤ 1000000 ∧ x2.size ≤ 1000000 := by have := HLS.out (x1, x2) (hxk ▸ List.getElem_mem hkl); exact this
      obtain ⟨hx1, hx2⟩ := hxs
      have hst : (L.take (k + 1)).flatMap (pW (tl name)) = (L.take k).flatMap (pW (tl name)) ++ pW (tl name) (x1, x2) := by
        rw [List.take_succ_eq_append_getElem hkl, List.flatMap_append, hxk]; simp
      have hpre : (L.take (k + 1)).flatMap (pW (tl name)) <+: dirL L (tl name) (tl dirs) := by
        refine List.IsPrefix.trans ?_ (List.prefix_append _ _)
        exact ⟨(L.drop (k + 1)).flatMap (pW (tl name)), by rw [← List.flatMap_append, List.take_append_drop]⟩
      obtain ⟨q, hq⟩ : ∃ q, q = (Pt.mt (tl x1) (tl name)).2 := ⟨_, rfl⟩
      obtain ⟨st, hst1⟩ : ∃ st, st = mk (Pt.mt (tl x1) (tl name)).1 := ⟨_, rfl⟩
      have km := fun w => match_sk x1 name w hx1 hns
      rw [← hq, ← hst1] at km
      have hpw : pW (tl name) (x1, x2) = if q then words (tl x2) else [] := by rw [hq]; rfl
      rw [hpw] at hst
      simp only at d1 d2
      have HST := hide' hst
      have HPR := hide' hpre
      have HC1 := hide' hC
      have hsz0 := hK.size
      clear hst hpre hC hpw hxk hx hkl hst1 hq
      have e1 := World.alloc_heap_new wr (Obj.cells #[Value.string x1, Value.string x2] 29)
      have hba : Below wr.heap.size wr (wr.alloc (Obj.cells #[Value.string x1, Value.string x2] 29)) := (Below.refl _ _).alloc (Nat.le_refl _) _
      have hKa : Kp W.heap.size wr (wr.alloc (Obj.cells #[Value.string x1, Value.string x2] 29)) := Kp.below hba
      have hsa : wr.heap.size < (wr.alloc (Obj.cells #[Value.string x1, Value.string x2] 29)).heap.size := by simp
      gi_wp2_with (refine ⟨trivial, ?_⟩; gi_at_call 86; refine (callsIn_wide.2 (km _)).mono ?_)
      rintro e w1 ⟨rfl, hb1⟩
      have e2 := (hb1.block _ hsa).trans e1
      have c5 : w1.cell? ⟨wr.heap.size, 1, none⟩ = some (.string x2) := by rw [Lib.cell_of_heap e2]; rfl
      clear e1 e2
      have hbw : Below wr.heap.size wr w1 := hba.trans (hb1.mono (Nat.le_of_lt hsa))
      have hK1 : Kp W.heap.size W w1 := hK.trans (Kp.below hbw)
      have hJ1 : J pre w1 := HJ.out _ _ _ hJs (hbw.mono hsz0)
      clear hba hKa hsa hb1 km cn d1 d2 hK hJs
      cases q with
      | false =>
        have HST2 : Hid (pre.map bytesOf = (L.take (k + 1)).flatMap (pW (tl name))) := by
          show _ = _
          rw [HST.out, HP.out]; simp
        clear HST HP
        gi_wp2
        refine ⟨trivial, ?_⟩
        gi_wp2
        exact ⟨⟨k + 1, pre, by omega, by go_num, hK1, HST2, hJ1⟩, by simp [intOf]; omega⟩
      | true =>
        have hP2 : pre.map bytesOf ++ words x2.data.toList <+: dirL L (tl name) (tl dirs) := by
          have h1 := HPR.out
          rw [HST.out, ← HP.out] at h1
          exact h1
        have ke := each_in (n - 1) l W.heap.size (by omega) x2 hx2 (dirL L (tl name) (tl dirs)) J Jx pre w1 hK1.size HJ.out hP2 HY.out.any hJ1
        clear hP2
        gi_wp2_with (refine ⟨trivial, ?_⟩; gi_at_call 87; refine ke.mono ?_)
        rintro e w2 (⟨rfl, ⟨ys, hys, hJ2⟩, hk2⟩ | ⟨rfl, ⟨pre2, hJx2⟩, hk2⟩)
        · have hK2 := hK1.trans hk2
          have HST2 : Hid ((pre ++ ys).map bytesOf = (L.take (k + 1)).flatMap (pW (tl name))) := by
            show _ = _
            rw [HST.out, List.map_append, HP.out, hys]; rfl
          clear HST HP hys hJ1 hK1 hk2 c5 hbw
          gi_wp2
          exact ⟨⟨k + 1, pre ++ ys, by omega, by go_num, hK2, HST2, hJ2⟩, by simp [intOf]; omega⟩
        · gi_wp2
          refine bodyPost_ret (results_none rfl _ _ _) rfl ?_
          exact ⟨⟨_, rfl⟩, .inr ⟨pre2, trivial, hJx2⟩⟩
    · have hall : L.take k = L := by
        have h1 := hC.prs.hlen
        exact List.take_of_length_le (by omega)
      have hP2 : pre.map bytesOf ++ words (mk (cmap (tl dirs))).data.toList = dirL L (tl name) (tl dirs) := by
        rw [HP.out, hall]; rfl
      have cd := hC.dr.cell
      have kc := colon_any dirs hds wr hC.mx
      have hcs : (mk (cmap (tl dirs))).size ≤ 1000000 := by rw [mk_size, cmap_len, tl_len]; exact hds
      obtain ⟨cm, hcm⟩ : ∃ cm, cm = mk (cmap (tl dirs)) := ⟨_, rfl⟩
      rw [← hcm] at kc hcs hP2
      have HP2 := hide' hP2
      clear hcm hP2 HP hall hC
      gi_wp2_with (refine ⟨trivial, ?_⟩; gi_at_call 88; refine (callsIn_wide.2 kc).mono ?_)
      rintro e w1 ⟨rfl, hb1⟩
      have hK1 : Kp W.heap.size W w1 := hK.trans (Kp.below hb1)
      have hJ1 : J pre w1 := HJ.out _ _ _ hJs (hb1.mono hK.size)
      have ke := each_in (n - 1) l W.heap.size (by omega) cm hcs (dirL L (tl name) (tl dirs)) J Jx pre w1 hK1.size HJ.out (by rw [HP2.out]; exact List.prefix_refl _) HY.out.any hJ1
      clear kc cd hK hJs hb1 hJ1
      gi_wp2_with (refine ⟨trivial, ?_⟩; gi_at_call 87; refine ke.mono ?_)
      rintro e w2 (⟨rfl, ⟨ys, hys, hJ2⟩, hk2⟩ | ⟨rfl, ⟨pre2, hJx2⟩, hk2⟩)
      · have HST2 : Hid ((pre ++ ys).map bytesOf = dirL L (tl name) (tl dirs)) := by
          show _ = _
          rw [← HP2.out, List.map_append, hys]
        clear HP2 hys
        gi_wp2
        go_end0
        exact ⟨⟨_, rfl⟩, .inl ⟨_, HST2.out, hJ2⟩⟩
      · gi_wp2
        go_end0
        exact ⟨⟨_, rfl⟩, .inr ⟨pre2, trivial, hJx2⟩⟩
/-- what directories hands back -/
theorem dirs_seq (n : Nat) (hn : 2 ≤ n) (Bb Bn Bd : Nat) (a : Option Addr) (m cap : Nat) (L : List Prw) (name dirs : ByteArray) (hm : m ≤ 1000000) (hns : name.size ≤ 1000000) (hds : dirs.size ≤ 1000000) (hls : ∀ p ∈ L, p.1.size ≤ 1000000 ∧ p.2.size ≤ 1000000) (w : World)
    (hC : DrC w Bb Bn Bd a m cap L name dirs) :
    SeqL n Tryz.prog 85 #[.pointer (some ⟨Bb, 0, none⟩), .pointer (some ⟨Bn, 0, none⟩), .pointer (some ⟨Bd, 0, none⟩)] (fun x : Wd => #[.string x.1]) (fun pre x => (pre ++ [x]).map bytesOf <+: dirL L (tl name) (tl dirs)) (fun ys => ys.map bytesOf = dirL L (tl name) (tl dirs)) (fun _ => True) w :=
  fun l J Jx W hW hJ _ hY h0 => dirs1_in n l hn Bb Bn Bd a m cap L name dirs hm hns hds hls J Jx W (hC.lies (Lies.below hW)) hJ hY h0
end Go.Proofs.YtabmnkddmdffkaaGreatDoor.Sk
