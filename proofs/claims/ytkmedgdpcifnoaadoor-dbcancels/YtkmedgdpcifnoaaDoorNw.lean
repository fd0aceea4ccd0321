/- What db.New has made so far. -/
import Derived.Test.YtkmedgdpcifnoaaDoorAp
namespace Go.Proofs.YtkmedgdpcifnoaaDoor
open Go.RowKit Go.Shelf

theorem grown_set (W : World) (b j : Nat) (v : Value) : W.grownBy (W.setCell ⟨b, j, none⟩ v) (some b) :=
  ⟨rfl, rfl, rfl, by simp, fun k _ hne => set_other _ _ _ _ (fun e => hne (by rw [e]))⟩
theorem GrAt.row {w w' : World} {BG M n B m : Nat} {f : Pf} {v : Value} {xs : List Value} (h : GrAt w BG M n f) (hr : w.ownsRow B 43 11 v m xs) (hg : w.grownBy w' v.ownBlock) : GrAt w' BG M n f := by
  cases hv : v.ownBlock with
  | none =>
    rw [hv] at hg
    exact h.below ⟨hg.os, hg.tape, hg.output, hg.size, fun k hk => hg.block k hk (by simp)⟩
  | some g =>
    obtain ⟨cur, hc⟩ := own_ty hr g hv
    rw [hv] at hg
    exact h.other hc (by decide) hg
theorem SetAt.row {w w' : World} {S B e size m : Nat} {l : List Bs} {v : Value} {xs : List Value} (h : SetAt w S l) (hr : w.ownsRow B e size v m xs) (hg : w.grownBy w' v.ownBlock) : SetAt w' S l := by
  obtain ⟨es, c, hM⟩ := h.isMap
  exact h.block (hg.block S h.lt (fun e1 => own_notmap hr hM e1.symm))
theorem OwnR.turn {w w' : World} {B : Nat} {v : Value} {L : List Rx} {row : Option Nat} (h : OwnR w B v L) (hg : w.grownBy w' row) (hv : ∀ g, v.ownBlock = some g → row ≠ some g) (hx : ∀ g, row = some g → ∃ cs t f, w.heap[g]? = some (.cells cs t f) ∧ t ≠ 9) : OwnR w' B v L := by
  have key : ∀ {size m : Nat} {u : Value} {ys : List Value}, w.ownsRow B 9 size u m ys → w'.ownsRow B 9 size u m ys := fun hu => own_kept hu fun k hk => hg.block k (own_lt hu k hk) (fun e => by
    obtain ⟨cs, t, f, hc, ht⟩ := hx k e.symm
    exact own_block hu hc ht hk)
  exact ⟨own_kept h.row fun g hgg => hg.block g (own_lt h.row g hgg) (fun e => hv g hgg e.symm), fun x hx => ⟨key (h.lists x hx).ts, key (h.lists x hx).ps, key (h.lists x hx).os, key (h.lists x hx).rc⟩⟩
structure NwAt (w0 w : World) (D M BG Eb S : Nat) (rv lv ev : Value) (R A : List Rx) (E : List Bs) : Prop where
  db : DbC w D rv lv (.map (some M)) (.slice none 0 0)
  rd : OwnR w w0.heap.size rv R
  al : OwnR w w0.heap.size lv A
  ne : ∀ g, rv.ownBlock = some g → lv.ownBlock ≠ some g
  gr : GrAt w BG M 0 (fun _ _ => [])
  bx : Bx2 w Eb ev (.map (some S))
  es : OwnS w w0.heap.size ev E
  se : SetAt w S E
  be : Below w0.heap.size w0 w
  lo : w0.heap.size ≤ D
section
variable {w0 w w' : World} {D M BG Eb S : Nat} {rv lv ev v' : Value} {R A A' : List Rx} {E : List Bs}
theorem NwAt.below (h : NwAt w0 w D M BG Eb S rv lv ev R A E) (hb : Below w.heap.size w w') : NwAt w0 w' D M BG Eb S rv lv ev R A E :=
  ⟨h.db.below hb, h.rd.below hb, h.al.below hb, h.ne, h.gr.below hb, h.bx.below hb, own_below h.es hb, h.se.below hb, h.be.trans (hb.mono h.be.size), h.lo⟩
theorem db_set {a b c d a' b' c' d' : Value} {j : Nat} {u : Value} (h : DbC w D a b c d) (he : (#[a, b, c, d] : Array Value).setIfInBounds j u = #[a', b', c', d']) : DbC (w.setCell ⟨D, j, none⟩ u) D a' b' c' d' := by
  have := set_block h j u
  rw [he] at this
  exact this
/-- the rules that are told grow, and are put into the base -/
theorem NwAt.row (h : NwAt w0 w D M BG Eb S rv lv ev R A E) (hg : w.grownBy w' lv.ownBlock) (ho : OwnR w' w0.heap.size v' A') (hloc : v'.ownBlock = lv.ownBlock ∨ v'.ownBlock = some w.heap.size) :
    DbC w' D rv lv (.map (some M)) (.slice none 0 0) ∧ NwAt w0 (w'.setCell ⟨D, 1, none⟩ v') D M BG Eb S rv v' ev R A' E := by
  have hD : DbC w' D rv lv (.map (some M)) (.slice none 0 0) := (hg.block D h.db.lt (fun e => own_block h.al.row h.db (by decide) e.symm)).trans h.db
  have hE : Bx2 w' Eb ev (.map (some S)) := (hg.block Eb h.bx.lt (fun e => own_block h.al.row h.bx (by decide) e.symm)).trans h.bx
  have hED : Eb ≠ D := by
    rintro rfl
    have h1 := h.bx
    have h2 := h.db
    unfold Bx2 at h1
    unfold DbC at h2
    rw [h1] at h2
    cases h2
  have hrd : OwnR w' w0.heap.size rv R := h.rd.turn hg (fun g hgg => h.ne g hgg) (fun g hgg => by
    obtain ⟨cur, hc⟩ := own_ty h.al.row g hgg
    exact ⟨_, _, _, hc, by decide⟩)
  have hes : OwnS w' w0.heap.size ev E := own_kept h.es fun k hk => hg.block k (own_lt h.es k hk) (fun e => own_apart h.es h.al.row (by decide) hk e.symm)
  have hgr := h.gr.row h.al.row hg
  have hse := h.se.row h.al.row hg
  have hs := grown_set w' D 1 v'
  have hDD : ∀ g, some D = some g → ∃ cs t f, w'.heap[g]? = some (.cells cs t f) ∧ t ≠ 9 := by
    intro g hgg
    cases hgg
    exact ⟨_, _, _, hD, by decide⟩
  have nD : ∀ {B e size n : Nat} {v : Value} {xs : List Value}, w'.ownsRow B e size v n xs → 57 ≠ e → ∀ g, v.ownBlock = some g → some D ≠ some g := fun hr he g hgg e => own_block hr hD he (by rw [hgg, e])
  obtain ⟨es, c, hM⟩ := hse.isMap
  have hSD : S ≠ D := by
    rintro rfl
    unfold DbC at hD
    rw [hM] at hD
    cases hD
  have hbw : Below w0.heap.size w0 w' := h.be.grown hg h.be.size (fun k hk => own_low h.al.row k hk)
  refine ⟨hD, db_set hD rfl, hrd.turn hs (nD hrd.row (by decide)) hDD, ho.turn hs (nD ho.row (by decide)) hDD, fun g hgg => ?_, hgr.other hD (by decide) hs, (set_other _ _ _ _ hED).trans hE, own_set hes hD (by decide) 1 v', hse.block (set_other _ _ _ _ hSD), hbw.setCell h.lo _, h.lo⟩
  rcases hloc with e | e
  · rw [e]
    exact h.ne g hgg
  · rw [e]
    intro e1
    have := own_lt h.rd.row g hgg
    cases e1
    omega
end
/-- a base that is put in order, as far as the places -/
structure DbAt (w0 w : World) (D M BG n : Nat) (rv lv v3 : Value) (R A : List Rx) (f : Pf) : Prop where
  db : DbC w D rv lv (.map (some M)) v3
  rd : OwnR w w0.heap.size rv R
  al : OwnR w w0.heap.size lv A
  gr : GrAt w BG M n f
  be : Below w0.heap.size w0 w
  lo : w0.heap.size ≤ D
section
variable {w0 w w' : World} {D M BG n n' : Nat} {rv lv v3 v' : Value} {R A : List Rx} {f f' : Pf}
theorem DbAt.below (h : DbAt w0 w D M BG n rv lv v3 R A f) (hb : Below w.heap.size w w') : DbAt w0 w' D M BG n rv lv v3 R A f :=
  ⟨h.db.below hb, h.rd.below hb, h.al.below hb, h.gr.below hb, h.be.trans (hb.mono h.be.size), h.lo⟩
theorem DbAt.noted (h : DbAt w0 w D M BG n rv lv v3 R A f) (hM : w0.heap.size ≤ M) (hBG : w0.heap.size ≤ BG) (hn : Nt BG M w w') (hg : GrAt w' BG M n' f') : DbAt w0 w' D M BG n' rv lv v3 R A f' :=
  ⟨hn.db h.db (h.gr.dm h.db), hn.rows h.rd h.gr.isMap, hn.rows h.al h.gr.isMap, hg,
    h.be.trans ⟨hn.os, hn.tape, hn.output, Nat.le_trans (Nat.le_refl _) hn.size, fun k hk => hn.keep k (Nat.lt_of_lt_of_le hk h.be.size) (by omega) (.inl (by omega))⟩, h.lo⟩
theorem DbAt.imp (h : DbAt w0 w D M BG n rv lv v3 R A f) {zs : List Int} (hi : w.ownsInts w0.heap.size 3 .i64 v' zs) : DbAt w0 (w.setCell ⟨D, 3, none⟩ v') D M BG n rv lv v' R A f ∧ (w.setCell ⟨D, 3, none⟩ v').ownsInts w0.heap.size 3 .i64 v' zs := by
  have hD := h.db
  have hs := grown_set w D 3 v'
  have hDD : ∀ g, some D = some g → ∃ cs t f, w.heap[g]? = some (.cells cs t f) ∧ t ≠ 9 := by
    intro g hgg
    cases hgg
    exact ⟨_, _, _, hD, by decide⟩
  have nD : ∀ {B e size n : Nat} {v : Value} {xs : List Value}, w.ownsRow B e size v n xs → 57 ≠ e → ∀ g, v.ownBlock = some g → some D ≠ some g := fun hr he g hgg e => own_block hr hD he (by rw [hgg, e])
  exact ⟨⟨db_set hD rfl, h.rd.turn hs (nD h.rd.row (by decide)) hDD, h.al.turn hs (nD h.al.row (by decide)) hDD, h.gr.other hD (by decide) hs, h.be.setCell h.lo _, h.lo⟩, own_set hi.1 hD (by decide) 3 v', hi.2⟩
end
theorem plaP_step (R A : List Rx) (k : Nat) (h : k < R.length) (h2 : k < A.length) : plaP (rs R) (rs A) (k + 1) = entP (R.getD k zeroRx).r (A.getD k zeroRx).r k (plaP (rs R) (rs A) k) := by
  conv => lhs; unfold plaP
  unfold rs
  rw [List.getElem?_map, List.getElem?_map, List.getD_eq_getElem?_getD, List.getD_eq_getElem?_getD, List.getElem?_eq_getElem h, List.getElem?_eq_getElem h2]
  rfl
end Go.Proofs.YtkmedgdpcifnoaaDoor
