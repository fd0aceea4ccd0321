/- The contract of ar.Put. -/
import Derived.Test.YtcijjigafcpcpaaGreatDoorRws
import Derived.Test.YtcijjigafcpcpaaGreatDoorCvt
namespace Go.Proofs.YtcijjigafcpcpaaGreatDoor
open Go.RowKit Go.Maps

/-- the member m in the place p, if that is one -/
def putS (ns : List Mv) (p : Int) (m : Mv) : List Mv := if p < 0 then ns else ns.set p.toNat m
def putM (ns : List Mv) (m : Mv) : List Mv := match findN ns m.name with | some k => ns.set k m | none => ns ++ [m]
theorem putS_len (ns : List Mv) (p : Int) (m : Mv) : (putS ns p m).length = ns.length := by unfold putS; split <;> simp
theorem putS_at {ns : List Mv} {p : Int} {m : Mv} {k : Nat} (hk : k < ns.length) (e : (k : Int) = p) : (putS ns p m)[k]? = some m := by
  unfold putS
  rw [if_neg (by omega), ← e, Int.toNat_natCast, List.getElem?_set_self hk]
theorem putS_ne {ns : List Mv} {p : Int} {m : Mv} {k : Nat} (e : ¬ (k : Int) = p) : (putS ns p m)[k]? = ns[k]? := by
  unfold putS
  split
  · rfl
  · rw [List.getElem?_set_ne (by omega)]
theorem putM_eq (ns : List Mv) (m : Mv) : putM ns m = if placeR ns m.name < 0 then putS ns (placeR ns m.name) m ++ [m] else putS ns (placeR ns m.name) m := by
  unfold putM placeR putS
  cases findN ns m.name with
  | none => simp
  | some k =>
    show ns.set k m = if ((k : Nat) : Int) < 0 then _ else (if ((k : Nat) : Int) < 0 then ns else ns.set ((k : Nat) : Int).toNat m)
    rw [if_neg (by omega), if_neg (by omega), Int.toNat_natCast]
/-- an answer: members in memory of their own -/
def MsR (B : Nat) (es : List (Bs × Int × Bs)) (w : World) (r : Ending) : Prop := ∃ v ms, r = .returned v ∧ MsAt w B v ms ∧ ms.map toE = es
/-- rows in building -/
structure Bld (w : World) (B : Nat) (l : Value) (ms : List Mv) : Prop where
  own : w.ownsRow B 37 3 l ms.length (flat ms)
  dat : ∀ m ∈ ms, Dat w m.dv m.data
  hi : ∀ m ∈ ms, OwnB B m.dv
theorem Bld.nil (w : World) (B : Nat) : Bld w B (.slice none 0 0) [] := ⟨World.ownsRow_nil _ _ _ _, fun n hn => (by cases hn), fun n hn => (by cases hn)⟩
theorem Bld.below {w w' : World} {B : Nat} {l : Value} {ms : List Mv} (h : Bld w B l ms) (hb : Below w.heap.size w w') : Bld w' B l ms :=
  ⟨own_kept h.own hb, fun m hm => (h.dat m hm).kept fun g hg => hb.block g ((h.dat m hm).lt g hg), h.hi⟩
theorem Bld.form {w : World} {B : Nat} {l : Value} {ms : List Mv} (h : Bld w B l ms) : ∃ a c, l = .slice a ms.length c := by
  rcases h.own.2 with ⟨e, e2⟩ | ⟨g1, c1, cur1, e, _⟩
  · exact ⟨none, 0, by rw [e, e2]⟩
  · exact ⟨_, _, e⟩
theorem Bld.msAt {w : World} {B : Nat} {l : Value} {ms : List Mv} (h : Bld w B l ms) : MsAt w B l ms := by
  refine ⟨?_, h.dat, fun m hm g hg => h.hi m hm g hg⟩
  rcases h.own.2 with ⟨e, e2⟩ | ⟨g, cap, cur, e, hbg, hg, r1, r2, r3, r4⟩
  · exact .inl ⟨e, List.length_eq_zero_iff.1 e2⟩
  · exact .inr ⟨g, cap, cur, e, hbg, hg, r1, by omega, r4⟩
/-- one more behind -/
theorem Bld.step {w w' : World} {B : Nat} {l l' : Value} {ms : List Mv} {x : Mv} (h : Bld w B l ms) (hd : Dat w x.dv x.data) (hx : OwnB B x.dv) (hg : w.grownBy w' l.ownBlock) (ho : w'.ownsRow B 37 3 l' (ms.length + 1) (flat ms ++ cellsM x)) : Bld w' B l' (ms ++ [x]) := by
  refine ⟨by rw [flat_snoc, List.length_append]; exact ho, fun m hm => ?_, fun m hm => ?_⟩
  · rcases List.mem_append.1 hm with hm | hm
    · exact dat_grown (h.dat m hm) h.own hg
    · rw [List.mem_singleton.1 hm]; exact dat_grown hd h.own hg
  · rcases List.mem_append.1 hm with hm | hm
    · exact h.hi m hm
    · rw [List.mem_singleton.1 hm]; exact hx
theorem Bld.grown {w w' : World} {B C : Nat} {w0 : World} {l : Value} {ms : List Mv} (h : Bld w B l ms) (hg : w.grownBy w' l.ownBlock) (hb : Below C w0 w) (hC : C ≤ B) (hC' : C ≤ w.heap.size) : Below C w0 w' :=
  hb.trans ⟨hg.os, hg.tape, hg.output, hg.size, fun b hb => hg.block b (by omega) (own_lt h.own (by omega))⟩
set_option maxRecDepth 100000 in
set_option maxHeartbeats 8000000 in
theorem put_any' (sa : Option Addr) (cap : Nat) (ns : List Mv) (p : Bs) (t : Int) (da : Option Addr) (dc : Nat) (x : Bs) (w : World) (hme : Mems w (.slice sa ns.length cap) ns) (hsa : ns ≠ [] → ∃ g o, sa = some ⟨g, o, none⟩ ∧ MRow w g o ns) (hr : ∀ n ∈ ns, Rds w n.dv n.data) (hx : Rds w (.slice da x.length dc) x) (hl : ns.length ≤ 100000) (hds : ∀ n ∈ ns, n.name.length ≤ 300000 ∧ n.data.length ≤ 300000) (hpl : p.length ≤ 300000) (hxl : x.length ≤ 300000) :
    Calls Tryz.prog 19 #[.slice sa ns.length cap, .agg #[.string (mk p), .int .i64 t, .slice da x.length dc]] w fun r w' => MsR w.heap.size ((putM ns ⟨p, t, .slice da x.length dc, x⟩).map toE) w' r ∧ Below w.heap.size w w' := by
  have hb0 : Below w.heap.size w (w.alloc (.cells #[.string (mk p), .int .i64 t, .slice da x.length dc] 37)) := (Below.refl _ _).alloc (Nat.le_refl _) _
  have z0 := alloc_new w (.cells #[.string (mk p), .int .i64 t, .slice da x.length dc] 37)
  have q0 := Find_any _ ns p _ (hme.below hb0) (by omega)
  go_enter Tryz.func19, Tryz.ntmps19
  go_wp2_with fail
  obtain ⟨w0, hw0⟩ : ∃ w0, w0 = w.alloc (.cells #[.string (mk p), .int .i64 t, .slice da x.length dc] 37) := ⟨_, rfl⟩
  rw [← hw0] at hb0 z0 q0 ⊢
  have hs0 : w0.heap.size = w.heap.size + 1 := by rw [hw0]; simp
  clear hw0
  refine q0.mono ?_
  rintro r w1 ⟨rfl, hb1⟩
  have hs1 := hb1.size
  have hB1 := hb0.trans (hb1.mono hb0.size)
  have z1 := (hb1.block _ (by omega)).trans z0
  clear q0 hme
  obtain ⟨at', hat'⟩ : ∃ at', at' = placeR ns p := ⟨_, rfl⟩
  rw [← hat']
  have HA := hide' hat'
  clear hat'
  go_wp2_with fail
  go_loopw [5, 7, 8, 15] (fun l _ _ i wr => ∃ (k : Nat) (ms : List Mv), k ≤ ns.length ∧ i = .int .i64 k ∧ Bld wr w1.heap.size l ms ∧ ms.length = k ∧ ms.map toE = ((putS ns at' ⟨p, t, .slice da x.length dc, x⟩).take k).map toE ∧ Below w1.heap.size w1 wr) (fun _ _ _ i _ => ns.length - (intOf i).toNat)
  case atStart => exact ⟨0, [], Nat.zero_le _, rfl, Bld.nil _ _, rfl, rfl, Below.refl _ _⟩
  case round =>
    obtain ⟨k, ms, hk, rfl, hbl, hmk, hme, hBe⟩ := hrel
    have hBw : Below w.heap.size w wr := hB1.trans (hBe.mono hB1.size)
    have y1 := (hBe.block _ (by omega)).trans z1
    have hsr := hBe.size
    obtain ⟨la, lc, hlv⟩ := hbl.form
    subst hlv
    have hml : ms.length ≤ 100000 := by omega
    have HM := hide' hmk
    clear hmk
    by_cases hkl : k < ns.length
    · have k1 : (k : Int) < ns.length := by omega
      obtain ⟨n, hn⟩ : ∃ n, ns[k]? = some n := ⟨_, List.getElem?_eq_getElem hkl⟩
      have hmem := List.mem_of_getElem? hn
      obtain ⟨g, o, hse, h⟩ := hsa (fun e => by rw [e] at hkl; simp at hkl)
      subst hse
      have hR := h.below hBw
      have d0 := hR.c0 k n hn
      have d1 := hR.c1 k n hn
      have d2 := hR.c2 k n hn
      have hrd := (hr n hmem).below hBw
      obtain ⟨ea, ec, hdv⟩ := hrd.len
      rw [hdv] at d2 hrd
      obtain ⟨l1, l2⟩ := hds n hmem
      by_cases hp : (k : Int) = at'
      · have hset := putS_at (m := ⟨p, t, .slice da x.length dc, x⟩) hkl hp
        have hq : ((k : Int) == at') = true := beq_iff_eq.2 hp
        have m0 : wr.cell? ⟨w.heap.size, 0, none⟩ = some (.string (mk p)) := by rw [Lib.cell_of_heap y1]; rfl
        have m1 : wr.cell? ⟨w.heap.size, 1, none⟩ = some (.int .i64 t) := by rw [Lib.cell_of_heap y1]; rfl
        have m2 : wr.cell? ⟨w.heap.size, 2, none⟩ = some (.slice da x.length dc) := by rw [Lib.cell_of_heap y1]; rfl
        have m0' := fun o => cell_old (W := wr) o m0
        have m1' := fun o => cell_old (W := wr) o m1
        have m2' := fun o => cell_old (W := wr) o m2
        clear hp
        go_wp2_with fail
        have hbx : Below wr.heap.size wr (wr.alloc (.cells #[.string (mk p), .int .i64 t, .slice da x.length dc] 37)) := (Below.refl _ _).alloc (Nat.le_refl _) _
        refine (own_any ⟨p, t, .slice da x.length dc, x⟩ _ ((hx.below hBw).below hbx) (show List.length p ≤ _ by omega) (show List.length x ≤ _ by omega)).mono ?_
        rintro r w8 ⟨⟨v8, rfl, hd8, ho8⟩, hb8⟩
        obtain ⟨a8, n8, c8, hv8⟩ := hd8.form
        subst hv8
        dsimp only at hd8 ho8 ⊢
        have hB8 : Below wr.heap.size wr w8 := hbx.trans (hb8.mono hbx.size)
        have hb9 : Below w8.heap.size w8 (w8.alloc (.cells #[.string (mk p), .int .i64 t, .slice a8 n8 c8] 37)) := (Below.refl _ _).alloc (Nat.le_refl _) _
        have hbl9 := (hbl.below hB8).below hb9
        have hown9 := hbl9.own
        have hs8 := hB8.size
        have hsx := hbx.size
        have hwz : w1.heap.size ≤ (w8.alloc (.cells #[.string (mk p), .int .i64 t, .slice a8 n8 c8] 37)).heap.size := by rw [size_alloc']; omega
        have hB9 := hB8.trans (hb9.mono hB8.size)
        have HK := hide' (And.intro hd8 (And.intro ho8 (And.intro hB9 (And.intro hb9 (And.intro hbl9 (And.intro hBe (And.intro hme hset)))))))
        clear hd8 ho8 hB9 hb9 hbl9 hBe hme hset hb8 hbx hB8 hbl y1 hBw z1 z0 hsa hr hds hx hB1 hb1 hb0
        obtain ⟨inf, hi, hz0, hz1, hz2⟩ := info_parts info37
        go_wp2_with (at_builtin; refine wpList_append_lies _ rfl _ _ 22 rfl w1.heap.size 37 inf _ 3 48 Tryz.underlying22 hi hz0 hz1 hz2 rfl (by decide) (.slice la ms.length lc) ms.length (flat ms) rfl hown9 ⟨w8.heap.size, 0, none⟩ 1 1 (cellsM ⟨p, t, .slice a8 n8 c8, x⟩) rfl rfl (news_cells w8 ⟨p, t, .slice a8 n8 c8, x⟩) (news_one _ _ _ _ _ _) (by decide) (by unfold maxLen; omega) (by omega) hwz _ rfl ?_)
        intro g9 c9 w9 hown10 hgr hat hlt
        obtain ⟨hd8, ho8, hB9, hb9, hbl9, hBe, hme, hset⟩ := HK.out
        have hbl10 := hbl9.step (x := ⟨p, t, .slice a8 n8 c8, x⟩) (hd8.kept fun g hg => hb9.block g (hd8.lt g hg)) (fun g hg => (by have := ho8 g hg; (try simp at this); omega)) hgr hown10
        have hB10 := hbl9.grown hgr (hBe.trans (hB9.mono hsr)) (Nat.le_refl _) hwz
        have HJ := hide' (And.intro hbl10 (And.intro hB10 (And.intro hme hset)))
        clear hd8 ho8 hB9 hb9 hbl9 hBe hme hset hbl10 hB10 hown10 hgr hat hown9 hi hz0 hz1 hz2 HK
        go_wp2
        obtain ⟨hbl10, hB10, hme, hset⟩ := HJ.out
        refine ⟨⟨k + 1, ms ++ [⟨p, t, .slice a8 n8 c8, x⟩], by omega, by simp, hbl10, by rw [List.length_append, HM.out]; rfl, ?_, hB10⟩, by simp [intOf]; omega⟩
        rw [List.map_append, hme, List.take_add_one, hset, List.map_append]
        rfl
      · have hset := (putS_ne (m := ⟨p, t, .slice da x.length dc, x⟩) hp).trans hn
        have hq : ((k : Int) == at') = false := beq_eq_false_iff_ne.2 hp
        go_wp2_with fail
        have hbx : Below wr.heap.size wr (wr.alloc (.cells #[.string (mk n.name), .int .i64 n.date, .slice ea n.data.length ec] 37)) := (Below.refl _ _).alloc (Nat.le_refl _) _
        refine (own_any ⟨n.name, n.date, .slice ea n.data.length ec, n.data⟩ _ (hrd.below hbx) (show List.length n.name ≤ _ by omega) (show List.length n.data ≤ _ by omega)).mono ?_
        rintro r w8 ⟨⟨v8, rfl, hd8, ho8⟩, hb8⟩
        obtain ⟨a8, n8, c8, hv8⟩ := hd8.form
        subst hv8
        dsimp only at hd8 ho8 ⊢
        have hB8 : Below wr.heap.size wr w8 := hbx.trans (hb8.mono hbx.size)
        have hb9 : Below w8.heap.size w8 (w8.alloc (.cells #[.string (mk n.name), .int .i64 n.date, .slice a8 n8 c8] 37)) := (Below.refl _ _).alloc (Nat.le_refl _) _
        have hbl9 := (hbl.below hB8).below hb9
        have hown9 := hbl9.own
        have hs8 := hB8.size
        have hsx := hbx.size
        have hwz : w1.heap.size ≤ (w8.alloc (.cells #[.string (mk n.name), .int .i64 n.date, .slice a8 n8 c8] 37)).heap.size := by rw [size_alloc']; omega
        have hB9 := hB8.trans (hb9.mono hB8.size)
        have HK := hide' (And.intro hd8 (And.intro ho8 (And.intro hB9 (And.intro hb9 (And.intro hbl9 (And.intro hBe (And.intro hme hset)))))))
        clear hd8 ho8 hB9 hb9 hbl9 hBe hme hset hb8 hbx hB8 hbl y1 hBw z1 z0 hsa hr hds hx hB1 hb1 hb0
        obtain ⟨inf, hi, hz0, hz1, hz2⟩ := info_parts info37
        go_wp2_with (at_builtin; refine wpList_append_lies _ rfl _ _ 22 rfl w1.heap.size 37 inf _ 3 48 Tryz.underlying22 hi hz0 hz1 hz2 rfl (by decide) (.slice la ms.length lc) ms.length (flat ms) rfl hown9 ⟨w8.heap.size, 0, none⟩ 1 1 (cellsM ⟨n.name, n.date, .slice a8 n8 c8, n.data⟩) rfl rfl (news_cells w8 ⟨n.name, n.date, .slice a8 n8 c8, n.data⟩) (news_one _ _ _ _ _ _) (by decide) (by unfold maxLen; omega) (by omega) hwz _ rfl ?_)
        intro g9 c9 w9 hown10 hgr hat hlt
        obtain ⟨hd8, ho8, hB9, hb9, hbl9, hBe, hme, hset⟩ := HK.out
        have hbl10 := hbl9.step (x := ⟨n.name, n.date, .slice a8 n8 c8, n.data⟩) (hd8.kept fun g hg => hb9.block g (hd8.lt g hg)) (fun g hg => (by have := ho8 g hg; (try simp at this); omega)) hgr hown10
        have hB10 := hbl9.grown hgr (hBe.trans (hB9.mono hsr)) (Nat.le_refl _) hwz
        have HJ := hide' (And.intro hbl10 (And.intro hB10 (And.intro hme hset)))
        clear hd8 ho8 hB9 hb9 hbl9 hBe hme hset hbl10 hB10 hown10 hgr hat hown9 hi hz0 hz1 hz2 HK
        go_wp2
        obtain ⟨hbl10, hB10, hme, hset⟩ := HJ.out
        refine ⟨⟨k + 1, ms ++ [⟨n.name, n.date, .slice a8 n8 c8, n.data⟩], by omega, by simp, hbl10, by rw [List.length_append, HM.out]; rfl, ?_, hB10⟩, by simp [intOf]; omega⟩
        rw [List.map_append, hme, List.take_add_one, hset, List.map_append]
        rfl
    · obtain rfl : k = ns.length := by omega
      have k1 : ¬ (ns.length : Int) < ns.length := by omega
      rw [List.take_of_length_le (by rw [putS_len]; exact Nat.le_refl _)] at hme
      have hset : placeR ns p = at' := HA.out.symm
      have hput := putM_eq ns ⟨p, t, .slice da x.length dc, x⟩
      rw [show placeR ns (Mv.name ⟨p, t, .slice da x.length dc, x⟩) = at' from hset] at hput
      by_cases hneg : at' < 0
      · rw [if_pos hneg] at hput
        have HP := hide' hput
        clear hput
        have m0 : wr.cell? ⟨w.heap.size, 0, none⟩ = some (.string (mk p)) := by rw [Lib.cell_of_heap y1]; rfl
        have m1 : wr.cell? ⟨w.heap.size, 1, none⟩ = some (.int .i64 t) := by rw [Lib.cell_of_heap y1]; rfl
        have m2 : wr.cell? ⟨w.heap.size, 2, none⟩ = some (.slice da x.length dc) := by rw [Lib.cell_of_heap y1]; rfl
        have HS := hide' (And.intro hset (And.intro hB1 hB1.size))
        clear hset
        go_wp2_with fail
        have hset : True := trivial
        have hbx : Below wr.heap.size wr wr := Below.refl _ _
        refine (own_any ⟨p, t, .slice da x.length dc, x⟩ _ ((hx.below hBw).below hbx) (show List.length p ≤ _ by omega) (show List.length x ≤ _ by omega)).mono ?_
        rintro r w8 ⟨⟨v8, rfl, hd8, ho8⟩, hb8⟩
        obtain ⟨a8, n8, c8, hv8⟩ := hd8.form
        subst hv8
        dsimp only at hd8 ho8 ⊢
        have hB8 : Below wr.heap.size wr w8 := hbx.trans (hb8.mono hbx.size)
        have hb9 : Below w8.heap.size w8 (w8.alloc (.cells #[.string (mk p), .int .i64 t, .slice a8 n8 c8] 37)) := (Below.refl _ _).alloc (Nat.le_refl _) _
        have hbl9 := (hbl.below hB8).below hb9
        have hown9 := hbl9.own
        have hs8 := hB8.size
        have hsx := hbx.size
        have hwz : w1.heap.size ≤ (w8.alloc (.cells #[.string (mk p), .int .i64 t, .slice a8 n8 c8] 37)).heap.size := by rw [size_alloc']; omega
        have hB9 := hB8.trans (hb9.mono hB8.size)
        have HK := hide' (And.intro hd8 (And.intro ho8 (And.intro hB9 (And.intro hb9 (And.intro hbl9 (And.intro hBe (And.intro hme hset)))))))
        clear hd8 ho8 hB9 hb9 hbl9 hBe hme hset hb8 hbx hB8 hbl y1 hBw z1 z0 hsa hr hds hx hB1 hb1 hb0
        obtain ⟨inf, hi, hz0, hz1, hz2⟩ := info_parts info37
        go_wp2_with (at_builtin; refine wpList_append_lies _ rfl _ _ 22 rfl w1.heap.size 37 inf _ 3 48 Tryz.underlying22 hi hz0 hz1 hz2 rfl (by decide) (.slice la ms.length lc) ms.length (flat ms) rfl hown9 ⟨w8.heap.size, 0, none⟩ 1 1 (cellsM ⟨p, t, .slice a8 n8 c8, x⟩) rfl rfl (news_cells w8 ⟨p, t, .slice a8 n8 c8, x⟩) (news_one _ _ _ _ _ _) (by decide) (by unfold maxLen; omega) (by omega) hwz _ rfl ?_)
        intro g9 c9 w9 hown10 hgr hat hlt
        obtain ⟨hd8, ho8, hB9, hb9, hbl9, hBe, hme, hset⟩ := HK.out
        have hbl10 := hbl9.step (x := ⟨p, t, .slice a8 n8 c8, x⟩) (hd8.kept fun g hg => hb9.block g (hd8.lt g hg)) (fun g hg => (by have := ho8 g hg; (try simp at this); omega)) hgr hown10
        have hB10 := hbl9.grown hgr (hBe.trans (hB9.mono hsr)) (Nat.le_refl _) hwz
        have HJ := hide' (And.intro hbl10 (And.intro hB10 (And.intro hme hset)))
        clear hd8 ho8 hB9 hb9 hbl9 hBe hme hset hbl10 hB10 hown10 hgr hat hown9 hi hz0 hz1 hz2 HK
        go_wp2
        obtain ⟨hbl10, hB10, hme, _⟩ := HJ.out
        obtain ⟨_, hB1, hsz⟩ := HS.out
        go_ret
        refine ⟨⟨.slice (some ⟨g9, 0, none⟩) (ms.length + 1) c9, ms ++ [⟨p, t, .slice a8 n8 c8, x⟩], rfl, hbl10.msAt.mono hsz, ?_⟩, hB1.trans (hB10.mono hsz)⟩
        rw [HP.out, List.map_append, hme, List.map_append]
        rfl
      · rw [if_neg hneg] at hput
        have hB3 := hB1.trans (hBe.mono hB1.size)
        have HS := hide' (And.intro hput (And.intro hB3 (And.intro hme (And.intro hbl hB1.size))))
        clear hput hset hB3 hme hbl y1 hBw z1 z0 hsa hr hds hx hB1 hb1 hb0 hBe
        go_wp2
        go_ret
        obtain ⟨hput, hB3, hme, hbl, hsz⟩ := HS.out
        exact ⟨⟨.slice la ms.length lc, ms, rfl, hbl.msAt.mono hsz, by rw [hme, hput]⟩, hB3⟩
theorem Put_any (v : Value) (ns : List Mv) (m : Mv) (w : World) (h : Mems w v ns) (hm : Rds w m.dv m.data) (hl : ns.length ≤ 100000) (hds : ∀ n ∈ ns, n.name.length ≤ 300000 ∧ n.data.length ≤ 300000) (hpl : m.name.length ≤ 300000) (hxl : m.data.length ≤ 300000) :
    Calls Tryz.prog 19 #[v, .agg #[.string (mk m.name), .int .i64 m.date, m.dv]] w fun r w' => MsR w.heap.size ((putM ns m).map toE) w' r ∧ Below w.heap.size w w' := by
  obtain ⟨da, dc, hdv⟩ := hm.len
  obtain ⟨p, t, dv, x⟩ := m
  dsimp only at *
  subst hdv
  rcases h with ⟨⟨a, c, rfl⟩, rfl⟩ | ⟨g, o, cap, rfl, h0, h1, h2⟩
  · exact put_any' a c [] p t da dc x w (.inl ⟨⟨_, _, rfl⟩, rfl⟩) (fun e => absurd rfl e) (fun n hn => (by cases hn)) hm hl hds hpl hxl
  · exact put_any' _ cap ns p t da dc x w (.inr ⟨g, o, cap, rfl, h0, h1, h2⟩) (fun _ => ⟨g, o, rfl, h1⟩) h2 hm hl hds hpl hxl
end Go.Proofs.YtcijjigafcpcpaaGreatDoor
