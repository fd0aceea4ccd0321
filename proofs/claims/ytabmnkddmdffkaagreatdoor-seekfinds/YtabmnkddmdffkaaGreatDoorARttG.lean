import Derived.Test.YtabmnkddmdffkaaGreatDoorAChgG
import Derived.Test.YtabmnkddmdffkaaGreatDoorARRm0G
import Derived.Test.YtabmnkddmdffkaaGreatDoorAMdtG
import Derived.BigQuiet
namespace Go.Proofs.YtabmnkddmdffkaaGreatDoor.Sk
open Go.RowKit Go.Shelf
theorem fo_twh (l : List UInt8) : (Arc.twh 40 l).length = fo l := by
 induction l with
 | nil => rfl
 | cons c r ih =>
  unfold Arc.twh at ih ⊢
  rw [List.takeWhile_cons]
  simp only [fo]
  by_cases h : c = 40
  ·subst h; rfl
  ·rw [if_neg h, if_pos (by simpa using h), List.length_cons, ih]
theorem fo_last : ∀ l : List UInt8, fo l.dropLast = min (fo l) l.dropLast.length
 | [] => rfl
 | [c] => by simp [fo]
 | c :: d :: r => by
  have ih := fo_last (d :: r)
  rw [List.dropLast_cons_cons]
  by_cases h : c = 40
  ·simp [fo, h]
  ·rw [show fo (c :: (d :: r).dropLast) = fo (d :: r).dropLast + 1 by rw [fo, if_neg h], show fo (c :: d :: r) = fo (d :: r) + 1 by rw [fo, if_neg h], ih, List.length_cons]
   omega
theorem isM_eq (s : List UInt8) : isM s = (shut s && decide (0 < fo s) && decide (fo s < s.length - 1)) := by
 unfold isM bod
 rw [fo_last, List.length_dropLast]
 cases shut s with
 | false => rfl
 | true =>
  rw [Bool.true_and, Bool.true_and, Bool.eq_iff_iff]
  simp only [Bool.and_eq_true, decide_eq_true_eq]
  omega
theorem fo_get {l : List UInt8} (h : fo l < l.length) : l[fo l] = 40 := by
 induction l with
 | nil => simp at h
 | cons c r ih =>
  by_cases hc : c = 40
  ·subst hc; rfl
  ·have hf : fo (c :: r) = fo r + 1 := by rw [fo, if_neg hc]
   simp only [hf, List.getElem_cons_succ]
   exact ih (by rw [hf, List.length_cons] at h; omega)
theorem prV_no (s : List UInt8) (h : isM s = false) : prV s = .tuple #[.string ⟨#[]⟩, .string ⟨#[]⟩, .bool false] := by
 unfold prV pA pM
 rw [h]; rfl
theorem shut_at (s : ByteArray) (h : 0 < s.size) : shut (tl s) = (s[s.size - 1] == 41) := by
 have hl : (tl s).length - 1 < (tl s).length := by rw [tl_len]; omega
 have hg : (tl s)[(tl s).length - 1]'hl = s[s.size - 1] := by simp [tl]; rfl
 unfold shut
 rw [List.getLast?_eq_getElem?, List.getElem?_eq_getElem hl, hg]
 rfl
set_option maxRecDepth 100000 in
set_option maxHeartbeats 1000000 in
theorem rmember_any (s : ByteArray) (hs : s.size ≤ 1000000) (w : World) :
  Calls Tryz.prog 15 #[.string s] w fun e w' => e = .returned (prV (tl s)) ∧ Below w.heap.size w w' := by
 have q : ∀ w, Calls Tryz.prog 39 #[.string s, .int .u8 40] w fun e w' => e = .returned (.int .i64 (Arc.ipc 40 (tl s))) ∧ w' = w := fun w => Arc.rfirst_any 40 40 rfl s w hs
 have hip : Arc.ipc 40 (tl s) = if fo (tl s) < s.size then (fo (tl s) : Int) else -1 := by unfold Arc.ipc; rw [fo_twh, tl_len]
 have hM := isM_eq (tl s)
 rw [tl_len] at hM
 have hle := fo_le (tl s)
 rw [tl_len] at hle
 by_cases h0 : 0 < fo (tl s) ∧ fo (tl s) < s.size
 ·rw [if_pos h0.2] at hip
  rw [hip] at q
  have hsz : 0 < s.size := by omega
  by_cases h41 : s[s.size - 1] = 41
  ·have hsh : shut (tl s) = true := by
    rw [shut_at s hsz]
    simpa using h41
   have hf41 := fo_get (l := tl s) (by rw [tl_len]; exact h0.2)
   have hlt : fo (tl s) < s.size - 1 := by
    by_cases he : fo (tl s) = s.size - 1
    ·exfalso
     have hl : s.size - 1 < (tl s).length := by rw [tl_len]; omega
     have h1 : (tl s)[s.size - 1]'hl = s[s.size - 1]'(by omega) := by simp [tl]; rfl
     have h2 : (tl s)[fo (tl s)]? = some 40 := by rw [List.getElem?_eq_getElem (by rw [tl_len]; exact h0.2), hf41]
     rw [he, List.getElem?_eq_getElem hl] at h2
     have h3 := (Option.some.inj h2).symm.trans (h1.trans h41)
     exact absurd h3 (by decide)
    ·omega
   have hm : isM (tl s) = true := by
    rw [hM, hsh, decide_eq_true h0.1, decide_eq_true hlt]; rfl
   have hfb : fo (bod (tl s)) = fo (tl s) := by
    unfold bod
    rw [fo_last, List.length_dropLast, tl_len]
    omega
   have hV : prV (tl s) = .tuple #[.string (s.extract 0 (fo (tl s))), .string (s.extract (fo (tl s) + 1) (s.size - 1)), .bool true] := by
    unfold prV pA pM
    rw [hm, if_pos rfl, if_pos rfl, hfb]
    have e1 : mk ((bod (tl s)).take (fo (tl s))) = s.extract 0 (fo (tl s)) := tl_inj _ _ (by
     rw [tl_mk]; unfold bod tl
     rw [Lib.extract_data, List.dropLast_eq_take, List.take_take, List.drop_zero, Nat.sub_zero]
     congr 1
     have : s.data.toList.length = s.size := by simp
     unfold tl at hlt
     omega)
    have e2 : mk ((bod (tl s)).drop (fo (tl s) + 1)) = s.extract (fo (tl s) + 1) (s.size - 1) := tl_inj _ _ (by
     rw [tl_mk]; unfold bod
     rw [show tl (s.extract (fo (tl s) + 1) (s.size - 1)) = ((tl s).drop (fo (tl s) + 1)).take (s.size - 1 - (fo (tl s) + 1)) from Lib.extract_data _ _ _, List.dropLast_eq_take, tl_len, List.drop_take])
    rw [e1, e2]
   rw [hV]
   obtain ⟨n, hn⟩ : ∃ n, n = fo (tl s) := ⟨_, rfl⟩
   rw [← hn] at q h0 hlt ⊢
   have k0 : ¬ (n : Int) ≤ 0 := by omega
   have k2 : (s[s.size - 1].toNat : Int) = 41 := by rw [h41]; rfl
   clear hip hM hle hn h41 hsh hm hfb hV hf41
   go_enter Tryz.func15, Tryz.ntmps15
   go_wp2_with fail
   refine (q _).mono ?_
   rintro e w1 ⟨rfl, rfl⟩
   clear q
   go_wp2_with fail
   go_quiet (fail)
   go_wp2_with fail
   refine bodyPost_ret (by simp [results, Tryz.results15, go_sem]; rfl) rfl ?_
   exact ⟨rfl, below_drewn _⟩
  ·have hsh : shut (tl s) = false := by
    rw [shut_at s hsz]
    simpa using h41
   rw [prV_no _ (by rw [hM, hsh]; rfl)]
   obtain ⟨n, hn⟩ : ∃ n, n = fo (tl s) := ⟨_, rfl⟩
   rw [← hn] at q h0
   have k0 : ¬ (n : Int) ≤ 0 := by omega
   have k2 : ¬ ((s[s.size - 1].toNat : Int) = 41) := fun e => h41 (UInt8.toNat_inj.1 (show s[s.size - 1].toNat = (41 : UInt8).toNat by have : (41 : UInt8).toNat = 41 := rfl; omega))
   clear hip hM hle hn h41 hsh
   go_enter Tryz.func15, Tryz.ntmps15
   go_wp2_with fail
   refine (q _).mono ?_
   rintro e w1 ⟨rfl, rfl⟩
   clear q
   go_wp2_with fail
   refine bodyPost_ret (by simp [results, Tryz.results15, go_sem]; rfl) rfl ?_
   exact ⟨rfl, Below.refl _ _⟩
 ·have hip2 : Arc.ipc 40 (tl s) = if fo (tl s) = 0 ∧ 0 < s.size then 0 else -1 := by
   rw [hip]
   by_cases h1 : fo (tl s) < s.size
   ·rw [if_pos h1, if_pos (by omega)]; omega
   ·rw [if_neg h1, if_neg (by omega)]
  have hm : isM (tl s) = false := by
   rw [hM]
   cases shut (tl s) with
   | false => rfl
   | true =>
    rw [Bool.true_and, Bool.and_eq_false_iff, decide_eq_false_iff_not, decide_eq_false_iff_not]
    omega
  rw [prV_no _ hm]
  obtain ⟨z, hz, hz0⟩ : ∃ z : Int, Arc.ipc 40 (tl s) = z ∧ z ≤ 0 := ⟨_, rfl, by rw [hip2]; split <;> omega⟩
  rw [hz] at q
  clear hip hip2 hm hM hle h0 hz
  go_enter Tryz.func15, Tryz.ntmps15
  go_wp2_with fail
  refine (q _).mono ?_
  rintro e w1 ⟨rfl, rfl⟩
  clear q
  go_wp2_with fail
  refine bodyPost_ret (by simp [results, Tryz.results15, go_sem]; rfl) rfl ?_
  exact ⟨rfl, Below.refl _ _⟩
end Go.Proofs.YtabmnkddmdffkaaGreatDoor.Sk
namespace Go.Proofs.YtabmnkddmdffkaaGreatDoor.Sk
open Go.RowKit Go.Shelf
theorem mdP_nil (nm : List UInt8) : Arc.mdP [] nm = none := by
 have h : Arc.PK [] [] 20 := .inr ⟨rfl, .inr ⟨rfl, by simp⟩, fun ns _ => Arc.arch_ne ns⟩
 rw [Arc.mdP_eq h]; rfl
def RmbR (bs : List UInt8) (w' : World) (e : Ending) : Prop := ∃ va vc ms, ∃ k : Nat, e = .returned (.tuple #[.slice va ms.length vc, .int .i64 k]) ∧ Arc.Mems w' (.slice va ms.length vc) ms ∧ ms.length ≤ 5000 ∧
 ((k = 0 ∧ ∀ nm, Arc.mdP bs nm = Arc.dtM ms nm) ∨ (k ≠ 0 ∧ ∀ nm, Arc.mdP bs nm = none))
theorem readR_err {T : Tr} {p : List UInt8} {m : Nat} (hB0 : ∀ m, lookN T p = .bad m → m ≠ 0) (h : readR T p = .inl m) : m ≠ 0 := by
 unfold readR at h
 split at h
 ·rename_i n hn
  injection h with h; subst h; exact hB0 _ hn
 ·injection h with h; omega
 ·injection h with h; omega
 ·split at h
  ·injection h with h; omega
  ·cases h
set_option maxRecDepth 100000 in
set_option maxHeartbeats 1000000 in
theorem rmembers_any (R : Nat) (v : Value) (ns : List Nv) (clk rm : Int) (P : ByteArray) (w : World) (hR : Rb w R v clk rm) (h : Nodes w v ns) (hs : Srt (ns.map toE)) (hl : ns.length ≤ 1000) (hP : P.size ≤ 300000) (hD : ∀ n ∈ ns, n.nd.data.length ≤ 65536) (hB0 : ∀ m, lookN (ns.map toE) (clean (tl P)) = .bad m → m ≠ 0) :
  Calls Tryz.prog 35 #[.pointer (some ⟨R, 0, none⟩), .string P] w fun e w' => RmbR (rdB (ns.map toE) (clean (tl P))) w' e ∧ Below w.heap.size w w' := by
 have q := rread_any R v ns clk rm P w hR h hs hl hP hD hB0
 have hlen := rdB_len (T := ns.map toE) (m := 65536) (fun e he => by
  obtain ⟨n, hn, rfl⟩ := List.mem_map.1 he
  exact hD n hn) (clean (tl P))
 cases hrd : readR (ns.map toE) (clean (tl P)) with
 | inl m =>
  have hm0 := readR_err hB0 hrd
  have hbs : rdB (ns.map toE) (clean (tl P)) = [] := by unfold rdB; rw [hrd]
  rw [hbs]
  rw [hrd] at q
  have e1 : ¬ (m : Int) = 0 := by omega
  have e2 : ((m : Int) == 0) = false := beq_eq_false_iff_ne.2 e1
  clear hR h hs hD hB0 hlen hrd hbs
  go_enter Tryz.func35, Tryz.ntmps35
  go_wp2_with fail
  refine q.mono ?_
  rintro e w1 ⟨hb, bv, er, rfl, rfl, rfl⟩
  clear q
  go_wp2_with fail
  refine bodyPost_ret (by simp [results, Tryz.results35, go_sem]; rfl) rfl ?_
  exact ⟨⟨none, 0, [], m, rfl, .inl ⟨⟨_, _, rfl⟩, rfl⟩, by simp, .inr ⟨hm0, mdP_nil⟩⟩, hb⟩
 | inr bs =>
  have hbs : rdB (ns.map toE) (clean (tl P)) = bs := by unfold rdB; rw [hrd]
  rw [hbs] at hlen ⊢
  rw [hrd] at q
  clear hR h hs hD hB0 hrd hbs
  go_enter Tryz.func35, Tryz.ntmps35
  go_wp2_with fail
  refine q.mono ?_
  rintro e w1 ⟨hb, bv, er, rfl, hd, rfl, _⟩
  have q2 := Arc.members_all bv bs w1 (Arc.Dat.rds hd) (by omega)
  clear q hd
  go_wp2_with fail
  refine q2.mono ?_
  rintro e w2 ⟨hb2, va, vc, ms, k, rfl, hme, hpk⟩
  have hsm := (Arc.pk_small hpk).1
  have HM := hide' (And.intro hme (And.intro hsm hpk))
  clear q2 hme hsm hpk
  go_wp2_with fail
  refine bodyPost_ret (by simp [results, Tryz.results35, go_sem]; rfl) rfl ?_
  obtain ⟨hme, hsm, hpk⟩ := HM.out
  refine ⟨⟨va, vc, ms, k, rfl, hme, hsm, ?_⟩, hb.trans (hb2.mono hb.size)⟩
  by_cases hk : k = 0
  ·exact .inl ⟨hk, fun nm => Arc.mdP_eq hpk⟩
  ·refine .inr ⟨hk, fun nm => ?_⟩
   rw [Arc.mdP_eq hpk]
   rcases hpk with ⟨h1, _⟩ | ⟨rfl, _⟩
   ·exact absurd h1 hk
   ·rfl
end Go.Proofs.YtabmnkddmdffkaaGreatDoor.Sk
namespace Go.Proofs.YtabmnkddmdffkaaGreatDoor.Sk
open Go.RowKit Go.Shelf
theorem statR_zero (T : Tr) (p : List UInt8) (h : (statR T p).1 = 0) : (statR T p).2.1 = 0 := by
 unfold statR at h ⊢
 split <;> rename_i hh
 ·rfl
 ·rfl
 ·rfl
 ·rw [hh] at h
  simp only at h
  split at h <;> simp at h
set_option maxRecDepth 100000 in
set_option maxHeartbeats 2000000 in
theorem rtime_any (R : Nat) (v : Value) (ns : List Nv) (clk rm : Int) (P : ByteArray) (w : World) (hR : Rb w R v clk rm) (h : Nodes w v ns) (hs : Srt (ns.map toE)) (hl : ns.length ≤ 1000) (hP : P.size ≤ 300000) (hD : ∀ n ∈ ns, n.nd.data.length ≤ 65536) (hB0 : ∀ p m, lookN (ns.map toE) p = .bad m → m ≠ 0) :
  Calls Tryz.prog 13 #[.pointer (some ⟨R, 0, none⟩), .string P] w fun e w' => e = .returned (.tuple #[.int .i64 ((tmP (ns.map toE) (tl P)).getD 0), .bool (tmP (ns.map toE) (tl P)).isSome]) ∧ Below w.heap.size w w' := by
 have q := rmember_any P (by omega) w
 have qs := fun w1 (hb : Below w.heap.size w w1) => rstat_any R v ns clk rm P w1 (hb.block R (lt_of_block hR) |>.trans hR) (h.below hb) hs hl hP
 obtain ⟨x, hx⟩ : ∃ x, x = statR (ns.map toE) (clean (tl P)) := ⟨_, rfl⟩
 have hz := statR_zero (ns.map toE) (clean (tl P))
 have hst : stT (ns.map toE) (clean (tl P)) = if x.1 = 0 then none else some x.2.1 := by rw [hx]; rfl
 rw [← hx] at qs hz
 clear hx
 obtain ⟨x1, x2, x3⟩ := x
 simp only [statV] at qs
 have HZ : Hid (x1 = 0 → x2 = 0) := hide' hz
 clear hz
 unfold tmP
 rw [hst]
 clear hst
 cases hm : isM (tl P) with
 | false =>
  have hmb : mbT (ns.map toE) (tl P) = none := by unfold mbT; rw [hm]; rfl
  rw [hmb]
  obtain ⟨o, ho⟩ : ∃ o : Option Int, o = if x1 = 0 then none else some x2 := ⟨_, rfl⟩
  rw [show (none : Option Int).or (if ((x1, x2, x3) : Int × Int × Int).1 = 0 then none else some ((x1, x2, x3) : Int × Int × Int).2.1) = o from ho.symm]
  have HO := hide' ho
  clear ho
  rw [prV_no _ hm] at q
  clear hR h hs hD hB0 hm hmb
  go_enter Tryz.func13, Tryz.ntmps13
  go_wp2_with fail
  refine q.mono ?_
  rintro e w1 ⟨rfl, hb1⟩
  clear q
  go_wp2_with fail
  refine (qs _ hb1).mono ?_
  rintro e w9 ⟨rfl, hb9⟩
  clear qs
  by_cases hx1 : x1 = 0
  ·have HO2 := hide' (HO.out.trans (if_pos hx1))
   have hx2 := HZ.out hx1
   clear HO
   subst hx1 hx2
   go_wp2_with fail
   go_quiet (fail)
   go_wp2_with fail
   refine bodyPost_ret (by simp [results, Tryz.results13, go_sem]; rfl) rfl ?_
   rw [HO2.out]
   exact ⟨rfl, ((hb1).trans ((hb9.trans (((Below.refl _ w9).alloc (Nat.le_refl _) _).mono hb9.size)).mono (hb1).size)).trans (below_drewn _)⟩
  ·have HO2 := hide' (HO.out.trans (if_neg hx1))
   have e3 : (x1 == 0) = false := beq_eq_false_iff_ne.2 hx1
   clear HO
   go_wp2_with fail
   go_quiet (fail)
   go_wp2_with fail
   refine bodyPost_ret (by simp [results, Tryz.results13, go_sem]; rfl) rfl ?_
   rw [HO2.out]
   exact ⟨by rw [show (x1 != 0) = true from by simpa using hx1]; rfl, ((hb1).trans ((hb9.trans (((Below.refl _ w9).alloc (Nat.le_refl _) _).mono hb9.size)).mono (hb1).size)).trans (below_drewn _)⟩
 | true =>
  obtain ⟨xa, hxa⟩ : ∃ x, x = pA (tl P) := ⟨_, rfl⟩
  obtain ⟨xm, hxm⟩ : ∃ x, x = pM (tl P) := ⟨_, rfl⟩
  have hla : xa.length ≤ 300000 := by rw [hxa]; exact Nat.le_trans (pA_len _).1 (by rw [tl_len]; exact hP)
  have hmb : mbT (ns.map toE) (tl P) = Arc.mdP (rdB (ns.map toE) (clean xa)) xm := by unfold mbT; rw [hm, hxa, hxm]; rfl
  unfold prV at q
  rw [hm, ← hxa, ← hxm] at q
  rw [hmb]
  have qm := fun w1 (hb : Below w.heap.size w w1) => rmembers_any R v ns clk rm (mk xa) w1 (hb.block R (lt_of_block hR) |>.trans hR) (h.below hb) hs hl (by rw [mk_size]; exact hla) hD (fun m => hB0 _ m)
  rw [tl_mk] at qm
  obtain ⟨bs, hbs⟩ : ∃ x, x = rdB (ns.map toE) (clean xa) := ⟨_, rfl⟩
  rw [← hbs] at qm ⊢
  obtain ⟨O, hO⟩ : ∃ O : Option Int, O = (Arc.mdP bs xm).or (if x1 = 0 then none else some x2) := ⟨_, rfl⟩
  rw [show (Arc.mdP bs xm).or (if ((x1, x2, x3) : Int × Int × Int).1 = 0 then none else some ((x1, x2, x3) : Int × Int × Int).2.1) = O from hO.symm]
  have HOO := hide' hO
  clear hO
  clear hR h hs hD hB0 hm hmb hxa hxm hla hbs
  go_enter Tryz.func13, Tryz.ntmps13
  go_wp2_with fail
  refine q.mono ?_
  rintro e w1 ⟨rfl, hb1⟩
  clear q
  go_wp2_with fail
  refine (qm _ hb1).mono ?_
  rintro e w2 ⟨⟨va, vc, ms, k, rfl, hme, hsm, hk⟩, hb2⟩
  have hb12 := hb1.trans (hb2.mono hb1.size)
  clear qm hb1 hb2
  rcases hk with ⟨rfl, hmd⟩ | ⟨hk0, hmd⟩
  ·have qf := Arc.Member_any _ ms xm w2 hme (by omega)
   go_wp2_with fail
   refine qf.mono ?_
   rintro e w3 ⟨rfl, rfl⟩
   clear qf
   rcases Arc.place_dtM ms xm with ⟨hp, hd⟩ | ⟨j, m, hp, hj, hd⟩
   ·rw [hp]
    have HO : Hid (O = if x1 = 0 then none else some x2) := hide' (by rw [HOO.out, hmd, hd]; rfl)
    clear hme hd hp hmd HOO
    go_wp2_with fail
    refine (qs _ hb12).mono ?_
    rintro e w9 ⟨rfl, hb9⟩
    clear qs
    by_cases hx1 : x1 = 0
    ·have HO2 := hide' (HO.out.trans (if_pos hx1))
     have hx2 := HZ.out hx1
     clear HO
     subst hx1 hx2
     go_wp2_with fail
     go_quiet (fail)
     go_wp2_with fail
     refine bodyPost_ret (by simp [results, Tryz.results13, go_sem]; rfl) rfl ?_
     rw [HO2.out]
     exact ⟨rfl, ((hb12).trans ((hb9.trans (((Below.refl _ w9).alloc (Nat.le_refl _) _).mono hb9.size)).mono (hb12).size)).trans (below_drewn _)⟩
    ·have HO2 := hide' (HO.out.trans (if_neg hx1))
     have e3 : (x1 == 0) = false := beq_eq_false_iff_ne.2 hx1
     clear HO
     go_wp2_with fail
     go_quiet (fail)
     go_wp2_with fail
     refine bodyPost_ret (by simp [results, Tryz.results13, go_sem]; rfl) rfl ?_
     rw [HO2.out]
     exact ⟨by rw [show (x1 != 0) = true from by simpa using hx1]; rfl, ((hb12).trans ((hb9.trans (((Below.refl _ w9).alloc (Nat.le_refl _) _).mono hb9.size)).mono (hb12).size)).trans (below_drewn _)⟩
   ·rw [hp]
    have HD : Hid (O = some m.date) := hide' (by rw [HOO.out, hmd, hd]; rfl)
    have hjl : j < ms.length := (List.getElem?_eq_some_iff.1 hj).1
    clear hd
    rcases hme with ⟨_, rfl⟩ | ⟨g, o, cap, hv, hc, hrow, _⟩
    ·simp at hjl
    ·injection hv with hv1 hv2 hv3
     subst hv1
     have d1 := hrow.c1 j m hj
     have hj1 : (j : Int) < ms.length := by omega
     have hj2 : (0 : Int) ≤ (j : Int) := by omega
     clear hrow hj hmd hp qs HOO HZ
     go_wp2_with fail
     refine bodyPost_ret (by simp [results, Tryz.results13, go_sem]; rfl) rfl ?_
     rw [HD.out]
     exact ⟨rfl, hb12⟩
  ·have e1 : ¬ (k : Int) = 0 := by omega
   have e2 : ((k : Int) == 0) = false := beq_eq_false_iff_ne.2 e1
   have HO : Hid (O = if x1 = 0 then none else some x2) := hide' (by rw [HOO.out, hmd]; rfl)
   clear hme hmd HOO
   go_wp2_with fail
   refine (qs _ hb12).mono ?_
   rintro e w9 ⟨rfl, hb9⟩
   clear qs
   by_cases hx1 : x1 = 0
   ·have HO2 := hide' (HO.out.trans (if_pos hx1))
    have hx2 := HZ.out hx1
    clear HO
    subst hx1 hx2
    go_wp2_with fail
    go_quiet (fail)
    go_wp2_with fail
    refine bodyPost_ret (by simp [results, Tryz.results13, go_sem]; rfl) rfl ?_
    rw [HO2.out]
    exact ⟨rfl, ((hb12).trans ((hb9.trans (((Below.refl _ w9).alloc (Nat.le_refl _) _).mono hb9.size)).mono (hb12).size)).trans (below_drewn _)⟩
   ·have HO2 := hide' (HO.out.trans (if_neg hx1))
    have e3 : (x1 == 0) = false := beq_eq_false_iff_ne.2 hx1
    clear HO
    go_wp2_with fail
    go_quiet (fail)
    go_wp2_with fail
    refine bodyPost_ret (by simp [results, Tryz.results13, go_sem]; rfl) rfl ?_
    rw [HO2.out]
    exact ⟨by rw [show (x1 != 0) = true from by simpa using hx1]; rfl, ((hb12).trans ((hb9.trans (((Below.refl _ w9).alloc (Nat.le_refl _) _).mono hb9.size)).mono (hb12).size)).trans (below_drewn _)⟩
end Go.Proofs.YtabmnkddmdffkaaGreatDoor.Sk
