/- Each call leaves a tree right; of a right tree a file system is made, and what one is made of is right. -/
import Derived.Test.YtbfchadcpokjoaaGreatDoorAPlan2
import Derived.Test.YtbfchadcpokjoaaGreatDoorAZg
namespace Go.Proofs.YtbfchadcpokjoaaGreatDoor
open Go

/-- what holds behind each call -/
structure StepOk (T : Tr) (clk : Int) (o : Out) : Prop where
  err : o.1 ≠ 0 → o.2.1 = T ∧ o.2.2 = clk
  lo : clk ≤ o.2.2
  hi : o.2.2 ≤ clk + 1
  same : o.2.2 = clk → o.2.1 = T
  gd : Gd o.2.1 o.2.2
theorem step_same {T : Tr} {clk : Int} (h : Gd T clk) (k : Nat) : StepOk T clk (k, T, clk) := ⟨fun _ => ⟨rfl, rfl⟩, Int.le_refl _, by simp only; omega, fun _ => rfl, h⟩
theorem step_new {T T' : Tr} {clk : Int} (h : Gd T' (clk + 1)) : StepOk T clk (0, T', clk + 1) := ⟨fun e => absurd rfl e, by simp only; omega, Int.le_refl _, fun e => by simp only at e; omega, h⟩
theorem put_ok {T : Tr} {clk rm : Int} (h : Gd T clk) (hk : 0 ≤ clk) {p : Bs} {n : Nd} (hv : valid p = true) (hp : p ≠ []) (hpl : Pl1 T p) (hd : (n.dir = true → n.data = []) ∧ n.data.length ≤ 65536) (ho : ∀ m, fnd T p = some m → m.dir = true → n.dir = true) : StepOk T clk (putR T clk rm p n) := by
  unfold putR
  split
  · exact step_new (h.put hv hp hpl (by omega) ⟨by simp only; omega, Int.le_refl _⟩ hd ho)
  · exact step_same h _
theorem lookN_valid {T : Tr} {p : Bs} {x : Lk Nd} (h : lookN T p = x) (hx : ∀ n, x ≠ .bad n) : valid p = true ∧ lookP isd T p = x := by
  unfold lookN at h
  cases hv : valid p with
  | false => rw [hv] at h; exact absurd h.symm (hx 16)
  | true => rw [hv, if_pos rfl] at h; exact ⟨rfl, h⟩
theorem lookN_is {T : Tr} {p : Bs} {n : Nd} (h : lookN T p = .is n) : valid p = true ∧ fnd T p = some n ∧ p ≠ [] ∧ Pl1 T p := by
  obtain ⟨hv, hl⟩ := lookN_valid h (fun n e => by cases e)
  exact ⟨hv, look_is' (valid_clean hv) hl⟩
theorem lookN_non {T : Tr} {p : Bs} (h : lookN T p = .non) : valid p = true ∧ fnd T p = none ∧ p ≠ [] ∧ Pl1 T p := by
  obtain ⟨hv, hl⟩ := lookN_valid h (fun n e => by cases e)
  exact ⟨hv, look_non' (valid_clean hv) hl⟩
theorem fileN_is {T : Tr} {p : Bs} {n : Nd} (h : fileN (lookN T p) = .is n) : lookN T p = .is n ∧ n.dir = false := by
  cases hl : lookN T p with
  | bad k => rw [hl] at h; cases h
  | non => rw [hl] at h; cases h
  | rt => rw [hl] at h; cases h
  | is x =>
    rw [hl] at h
    cases hd : x.dir with
    | true => simp [fileN, hd] at h
    | false => simp only [fileN, hd, Bool.false_eq_true, if_false, Lk.is.injEq] at h; subst h; exact ⟨rfl, hd⟩
theorem fileN_non {T : Tr} {p : Bs} (h : fileN (lookN T p) = .non) : lookN T p = .non := by
  cases hl : lookN T p with
  | bad k => rw [hl] at h; cases h
  | non => rfl
  | rt => rw [hl] at h; cases h
  | is x => rw [hl] at h; cases hd : x.dir <;> simp [fileN, hd] at h
theorem fileN_rt {T : Tr} {p : Bs} (h : fileN (lookN T p) = .rt) : False := by
  cases hl : lookN T p with
  | bad k => rw [hl] at h; cases h
  | non => rw [hl] at h; cases h
  | rt => rw [hl] at h; cases h
  | is x => rw [hl] at h; cases hd : x.dir <;> simp [fileN, hd] at h
theorem write_ok {T : Tr} {clk rm : Int} (h : Gd T clk) (hk : 0 ≤ clk) (p bs : Bs) (add : Bool) : StepOk T clk (writeR T clk rm p bs add) := by
  unfold writeR
  cases hl : fileN (lookN T p) with
  | bad k => exact step_same h _
  | rt => exact step_same h _
  | non =>
    simp only
    split
    · exact step_same h _
    · obtain ⟨hv, hf, hp, hpl⟩ := lookN_non (fileN_non hl)
      exact put_ok h hk hv hp hpl ⟨fun e => (by cases e), by simp only; omega⟩ fun m hm => by rw [hf] at hm; cases hm
  | is e =>
    simp only
    obtain ⟨h1, h2⟩ := fileN_is hl
    obtain ⟨hv, hf, hp, hpl⟩ := lookN_is h1
    generalize (if add = true then e.data else []) = d
    split
    · exact step_same h _
    · exact put_ok h hk hv hp hpl ⟨fun e => (by cases e), by simp only [List.length_append]; omega⟩ fun m hm hd => by rw [hf] at hm; cases hm; rw [h2] at hd; cases hd
theorem mkdir_ok {T : Tr} {clk rm : Int} (h : Gd T clk) (hk : 0 ≤ clk) (p : Bs) : StepOk T clk (mkdirR T clk rm p) := by
  unfold mkdirR
  cases hl : lookN T p with
  | bad k => exact step_same h _
  | rt => exact step_same h _
  | is e => exact step_same h _
  | non =>
    obtain ⟨hv, hf, hp, hpl⟩ := lookN_non hl
    exact put_ok h hk hv hp hpl ⟨fun _ => rfl, by simp⟩ fun m hm => by rw [hf] at hm; cases hm
/-- who lies in a directory is among its names -/
theorem kid_in {T : Tr} {clk : Int} (h : Gd T clk) {p : Bs} (hp : p ≠ []) (hk : (kidNames T p).isEmpty = true) : ∀ e ∈ T, par e.1 ≠ [] → par e.1 ≠ p := by
  intro e he hr e2
  obtain ⟨hv, hne⟩ := h.val e he
  obtain ⟨x, hx, hc, _⟩ := par_cases e.1 (valid_clean hv) hne
  rcases hc with ⟨h1, _⟩ | ⟨_, h2⟩
  · exact hr h1
  · rw [e2] at h2
    have hah : ahead p = p ++ [47] := by unfold ahead; rw [if_neg hp]
    have h3 : e.1 = ahead p ++ x := by rw [hah, h2]; simp
    have h4 : kidOf p e.1 = some x := by
      unfold kidOf
      have h5 : (ahead p).isPrefixOf e.1 = true := by rw [List.isPrefixOf_iff_prefix, h3]; exact List.prefix_append _ _
      have h6 : e.1.drop (ahead p).length = x := by rw [h3, List.drop_left]
      have h7 : x.contains 47 = false := by
        cases hcx : x.contains 47 with
        | false => rfl
        | true => exact absurd (List.contains_iff_mem.1 hcx) hx.2.1
      rw [h5, h6, h7]
      rfl
    have h5 : x ∈ kidNames T p := List.mem_filterMap.2 ⟨e.1, List.mem_map.2 ⟨e, he, rfl⟩, h4⟩
    rw [List.isEmpty_iff.1 hk] at h5
    cases h5
theorem remove_ok {T : Tr} {clk : Int} (h : Gd T clk) (p : Bs) : StepOk T clk (removeR T clk p) := by
  unfold removeR
  split
  · exact step_same h _
  · rename_i hp
    cases hl : lookN T p with
    | bad k => exact step_same h _
    | rt => exact step_same h _
    | non => exact step_same h _
    | is n =>
      simp only
      obtain ⟨hv, hf, _, hpl⟩ := lookN_is hl
      split
      · exact step_same h _
      · rename_i hc
        refine step_new (h.del (by omega) ?_)
        cases hd : n.dir with
        | false => exact h.no_kid hf hd
        | true =>
          rw [hd] at hc
          exact kid_in h hp (by simpa using hc)
theorem touch_ok {T : Tr} {clk rm : Int} (h : Gd T clk) (hk : 0 ≤ clk) (p : Bs) : StepOk T clk (touchR T clk rm p) := by
  unfold touchR
  split
  · exact step_same h _
  · rename_i hp
    cases hl : lookN T p with
    | bad k => exact step_same h _
    | rt => exact step_same h _
    | non =>
      obtain ⟨hv, hf, hp, hpl⟩ := lookN_non hl
      exact put_ok h hk hv hp hpl ⟨fun e => (by cases e), by simp⟩ fun m hm => by rw [hf] at hm; cases hm
    | is n =>
      obtain ⟨hv, hf, _, hpl⟩ := lookN_is hl
      exact step_new (h.put hv hp hpl (by omega) ⟨by simp only; omega, Int.le_refl _⟩ (h.dat _ (fnd_mem hf)) fun m hm hd => by rw [hf] at hm; cases hm; exact hd)
theorem rename_ok {T : Tr} {clk : Int} (h : Gd T clk) (p q : Bs) : StepOk T clk (renameR T clk p q) := by
  unfold renameR
  cases hl : fileN (lookN T p) with
  | bad k => exact step_same h _
  | rt => exact step_same h _
  | non => exact step_same h _
  | is n =>
    simp only
    obtain ⟨h1, h2⟩ := fileN_is hl
    obtain ⟨hv, hf, hp, hpl⟩ := lookN_is h1
    have hkid := h.no_kid hf h2
    have ht := h.tim _ (fnd_mem hf)
    have hd1 : Gd (del T p) (clk + 1) := h.del (by omega) hkid
    have fin : valid q = true → q ≠ [] → Pl1 T q → (∀ m, fnd T q = some m → m.dir = false) → StepOk T clk (if p = q then (0, T, clk) else (0, put (del T p) q n, clk + 1)) := by
      intro hvq hq hplq hqf
      split
      · exact step_same h _
      · rename_i hpq
        refine step_new (hd1.put hvq hq ?_ (by omega) ⟨ht.1, by have := ht.2; simp only at this; omega⟩ (h.dat _ (fnd_mem hf)) fun m hm hd => ?_)
        · rcases hplq with h3 | ⟨m, h3, h4⟩
          · exact .inl h3
          · refine .inr ⟨m, (fnd_del_other T fun e => ?_).trans h3, h4⟩
            rw [← e, hf] at h3
            cases h3
            rw [h2] at h4; cases h4
        · rw [fnd_del_other T hpq] at hm
          rw [hqf m hm] at hd; cases hd
    cases hq : fileN (lookN T q) with
    | bad k => exact step_same h _
    | rt => exact (fileN_rt hq).elim
    | non =>
      obtain ⟨hvq, hfq, hqn, hplq⟩ := lookN_non (fileN_non hq)
      exact fin hvq hqn hplq fun m hm => by rw [hfq] at hm; cases hm
    | is m =>
      obtain ⟨g1, g2⟩ := fileN_is hq
      obtain ⟨hvq, hfq, hqn, hplq⟩ := lookN_is g1
      exact fin hvq hqn hplq fun m' hm => by rw [hfq] at hm; cases hm; exact g2

/- of what a file system is made -/
def toE (n : Nv) : Bs × Nd := (n.path, n.nd)
theorem par_parent (p : Bs) : parent p = par p := rfl
theorem upDirN_of {T : Tr} {p : Bs} (h : upDirN (lookN T p) = true) : p = [] ∨ ∃ n, fnd T p = some n ∧ n.dir = true := by
  cases hl : lookN T p with
  | bad k => rw [hl] at h; cases h
  | non => rw [hl] at h; cases h
  | rt =>
    obtain ⟨hv, h1⟩ := lookN_valid hl (fun n e => by cases e)
    exact .inl ((look_par p.length p (Nat.le_refl _) (valid_clean hv) _ h1).1 rfl)
  | is n => rw [hl] at h; exact .inr ⟨n, (lookN_is hl).2.1, h⟩
/-- what was planted is right, and is what was handed in -/
theorem plant_gd (clk : Int) (ns : List Nv) (hl : ∀ n ∈ ns, long n = false) : ∀ k ah T, plantR clk (ns.take k) = some (ah, T) → T = (ns.take k).map toE ∧ Gd T clk ∧ (∀ e ∈ T, e.1 = ah ∨ bytesBefore e.1 ah = true) ∧ (ah = [] → T = [])
  | 0, ah, T, h => by
    rw [List.take_zero] at h ⊢
    simp only [plantR, List.foldl_nil, Option.some.injEq, Prod.mk.injEq] at h
    obtain ⟨rfl, rfl⟩ := h
    exact ⟨rfl, Gd.nil clk, fun e he => (by cases he), fun _ => rfl⟩
  | k + 1, ah, T, h => by
    by_cases hk : k < ns.length
    · obtain ⟨n, hn⟩ : ∃ n, ns[k]? = some n := ⟨_, List.getElem?_eq_getElem hk⟩
      rw [plant_take hn] at h
      cases hp : plantR clk (ns.take k) with
      | none => rw [hp] at h; cases h
      | some st =>
        obtain ⟨ah0, T0⟩ := st
        obtain ⟨i1, i2, i3, i4⟩ := plant_gd clk ns hl k ah0 T0 hp
        rw [hp] at h
        simp only [stepP] at h
        split at h
        · rename_i hc
          simp only [Option.some.injEq, Prod.mk.injEq] at h
          obtain ⟨rfl, rfl⟩ := h
          simp only [Bool.and_eq_true, fitN, fitB1, decide_eq_true_eq] at hc
          obtain ⟨hb, ⟨hv, ht0, ht1, hdd⟩, hu⟩ := hc
          have hne : n.path ≠ [] := by
            intro e
            rw [e] at hb
            cases ah0 <;> simp [bytesBefore] at hb
          have hall : ∀ e ∈ T0, bytesBefore e.1 n.path = true := fun e he => by
            rcases i3 e he with h3 | h3
            · rw [h3]; exact hb
            · exact before_trans _ _ _ h3 hb
          have hpl : Pl1 T0 n.path := upDirN_of hu
          have hlong : n.nd.data.length ≤ 65536 := by
            have := hl n (List.mem_of_getElem? hn)
            unfold long at this
            cases hdir : n.nd.dir with
            | true =>
              rw [hdir] at hdd
              simp at hdd
              rw [hdd]
              simp
            | false =>
              rw [hdir] at this
              simp at this
              omega
          have hdat : n.nd.dir = true → n.nd.data = [] := fun e => by
            rw [e] at hdd
            simp at hdd
            exact hdd
          refine ⟨?_, i2.put hv hne hpl (Int.le_refl _) ⟨ht0, ht1⟩ ⟨hdat, hlong⟩ fun m hm => ?_, fun e he => ?_, fun e => absurd e hne⟩
          · rw [put_last T0 n.path n.nd hall, i1, List.take_add_one, hn, List.map_append]
            rfl
          · exact absurd rfl (before_ne (hall _ (fnd_mem hm)))
          · rcases mem_put.1 he with rfl | ⟨h1, _⟩
            · exact .inl rfl
            · exact .inr (hall e h1)
        · cases h
    · have e1 : ns.take (k + 1) = ns.take k := by rw [List.take_of_length_le (by omega), List.take_of_length_le (by omega)]
      rw [e1] at h ⊢
      exact plant_gd clk ns hl k ah T h
theorem lenR_oks {ns : List Nv} (h : lenR ns = .ok) : ns.length ≤ 1000 ∧ ∀ n ∈ ns, long n = false := by
  unfold lenR at h
  split at h
  · cases h
  · rename_i hc
    refine ⟨by omega, fun n hn => ?_⟩
    cases hln : long n with
    | false => rfl
    | true => exact absurd (.inr (List.any_eq_true.2 ⟨n, hn, hln⟩)) hc
/-- of what a file system is made: it is right, and all is there as it was -/
theorem new_inr {ns : List Nv} {clk rm : Int} {T : Tr} (h : newR ns clk rm = .inr T) : T = ns.map toE ∧ Gd T clk ∧ okTree clk rm ∧ (weight T : Int) ≤ rm ∧ lenR ns = .ok := by
  unfold newR at h
  cases hl : lenR ns with
  | ok =>
    rw [hl] at h
    simp only at h
    split at h
    · rename_i hok
      cases hp : plantR clk ns with
      | none => rw [hp] at h; cases h
      | some st =>
        obtain ⟨ah, T0⟩ := st
        rw [hp] at h
        simp only at h
        split at h
        · cases h
        · rename_i hw
          cases h
          have q := plant_gd clk ns (lenR_oks hl).2 ns.length ah T (by rw [List.take_length]; exact hp)
          rw [List.take_length] at q
          exact ⟨q.1, q.2.1, hok, by omega, rfl⟩
    · cases h
  | no n => rw [hl] at h; cases h
  | nothing => rw [hl] at h; cases h
/-- of a right tree a file system is made -/
theorem new_of_gd {ns : List Nv} {clk rm : Int} (h : Gd (ns.map toE) clk) (hok : okTree clk rm) (hw : (weight (ns.map toE) : Int) ≤ rm) (hlen : ns.length ≤ 1000) : newR ns clk rm = .inr (ns.map toE) := by
  have hlr : lenR ns = .ok := by
    unfold lenR
    rw [if_neg]
    rintro (h1 | h1)
    · omega
    · obtain ⟨n, hn, hl⟩ := List.any_eq_true.1 h1
      have := (h.dat (toE n) (List.mem_map.2 ⟨n, hn, rfl⟩)).2
      unfold long at hl
      simp [toE] at hl this
      omega
  have key : ∀ k, k ≤ ns.length → ∃ ah, plantR clk (ns.take k) = some (ah, (ns.take k).map toE) ∧ (∀ n, ns[k]? = some n → bytesBefore ah n.path = true) := by
    intro k
    induction k with
    | zero =>
      intro _
      refine ⟨[], rfl, fun n hn => ?_⟩
      have := (h.val (toE n) (List.mem_map.2 ⟨n, List.mem_of_getElem? hn, rfl⟩)).2
      simp only [toE] at this
      cases hp : n.path with
      | nil => exact absurd hp this
      | cons _ _ => rfl
    | succ k ih =>
      intro hk
      obtain ⟨ah, h1, h2⟩ := ih (by omega)
      obtain ⟨n, hn⟩ : ∃ n, ns[k]? = some n := ⟨_, List.getElem?_eq_getElem (by omega)⟩
      have hm : toE n ∈ ns.map toE := List.mem_map.2 ⟨n, List.mem_of_getElem? hn, rfl⟩
      obtain ⟨hv, hne⟩ := h.val _ hm
      have ht := h.tim _ hm
      have hd := (h.dat _ hm).1
      simp only [toE] at hv hne ht hd
      have hT : (ns.map toE).take k = (ns.take k).map toE := (List.map_take ..).symm
      have hall : ∀ e ∈ (ns.take k).map toE, bytesBefore e.1 n.path = true := by
        intro e he
        rw [← hT] at he
        have hs := h.srt
        have hTT : (ns.map toE).take k ++ (ns.map toE).drop k = ns.map toE := List.take_append_drop _ _
        unfold Srt at hs
        rw [← hTT] at hs
        have hin : toE n ∈ (ns.map toE).drop k := by
          rw [List.mem_iff_getElem?]
          exact ⟨0, by rw [List.getElem?_drop, List.getElem?_map, Nat.add_zero, hn]; rfl⟩
        exact (List.pairwise_append.1 hs).2.2 e he _ hin
      have hg : Gd ((ns.take k).map toE) clk := by rw [← hT]; exact h.take k
      have hup : upDirN (lookN ((ns.take k).map toE) (parent n.path)) = true := by
        obtain ⟨x, hx, hc, hcp, _⟩ := par_cases n.path (valid_clean hv) hne
        rw [par_parent]
        rcases h.up _ hm with hr | ⟨m, hf, hmd⟩
        · simp only [toE] at hr
          rw [hr]
          rfl
        · simp only [toE] at hf
          have hin := fnd_mem hf
          have hb := par_before (valid_clean hv) hne
          have hin' : (par n.path, m) ∈ (ns.take k).map toE := by
            rw [← hT]
            have hTT : (ns.map toE).take k ++ (ns.map toE).drop k = ns.map toE := List.take_append_drop _ _
            rw [← hTT] at hin
            rcases List.mem_append.1 hin with h5 | h5
            · exact h5
            · exfalso
              have hs := h.srt
              have hdr : (ns.map toE).drop k = toE n :: (ns.map toE).drop (k + 1) := by
                have : (ns.map toE)[k]? = some (toE n) := by rw [List.getElem?_map, hn]; rfl
                obtain ⟨hlt, hge⟩ := List.getElem?_eq_some_iff.1 this
                rw [List.drop_eq_getElem_cons hlt, hge]
              have hs2 : Srt ((ns.map toE).drop k) := List.Pairwise.sublist (List.drop_sublist _ _) hs
              rw [hdr] at h5 hs2
              rcases List.mem_cons.1 h5 with h6 | h6
              · have := congrArg Prod.fst h6
                simp only [toE] at this
                rw [this, before_irrefl] at hb
                cases hb
              · have := (List.pairwise_cons.1 hs2).1 _ h6
                simp only [toE] at this
                rw [before_asymm this] at hb
                cases hb
          have hv2 := (hg.val _ hin').1
          have hlk := hg.look _ _ (Nat.le_refl _) m (hg.srt.fnd hin')
          unfold lookN
          simp only at hv2
          rw [hv2, if_pos rfl]
          show upDirN (lookP isd _ _) = true
          rw [hlk]
          exact hmd
      refine ⟨n.path, ?_, fun n' hn' => ?_⟩
      · rw [plant_take hn, h1]
        simp only [stepP]
        rw [if_pos]
        · rw [put_last _ _ _ hall, List.take_add_one, hn, List.map_append]
          rfl
        · simp only [Bool.and_eq_true]
          refine ⟨h2 n hn, ?_⟩
          unfold fitN
          rw [hup]
          unfold fitB1
          simp only [hv, Bool.true_and, Bool.and_true, Bool.and_eq_true, decide_eq_true_eq]
          refine ⟨ht.1, ht.2, ?_⟩
          cases hdir : n.nd.dir with
          | false => rfl
          | true => simp [hd hdir]
      · have hs := h.srt
        unfold Srt at hs
        rw [List.pairwise_iff_getElem] at hs
        obtain ⟨l1, g1⟩ := List.getElem?_eq_some_iff.1 hn
        obtain ⟨l2, g2⟩ := List.getElem?_eq_some_iff.1 hn'
        have := hs k (k + 1) (by simpa using l1) (by simpa using l2) (by omega)
        simpa [g1, g2, toE] using this
  obtain ⟨ah, h1, _⟩ := key ns.length (Nat.le_refl _)
  rw [List.take_length] at h1
  unfold newR
  rw [hlr]
  simp only
  rw [if_pos hok, h1]
  simp only
  rw [if_neg (by omega)]
end Go.Proofs.YtbfchadcpokjoaaGreatDoor
