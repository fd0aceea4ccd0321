/- Plain: the parts of a text that is put together of bytes, one reference and bytes. -/
import Derived.Test.YtaemmgllhmjceaaDoorPr
namespace Go.Proofs.YtaemmgllhmjceaaDoor

theorem getD_mid (p : Bs) (y : UInt8) (r : Bs) : (p ++ y :: r).getD p.length 0 = y := by
  rw [List.getD_eq_getElem?_getD, List.getElem?_append_right (Nat.le_refl _), Nat.sub_self]; rfl
theorem drop_mid (p r : Bs) : (p ++ r).drop p.length = r := List.drop_left' rfl
/-- bytes without a dollar -/
theorem prs_run : ∀ (x p r : Bs) (f : Nat) (row : Bs) (acc : List Pt), (∀ c ∈ x, ¬ c = 36) → prs (p ++ x ++ r) (f + x.length) p.length row acc = prs (p ++ x ++ r) f (p.length + x.length) (row ++ x) acc
  | [], p, r, f, row, acc, _ => by simp
  | c :: x, p, r, f, row, acc, h => by
    have e : p ++ (c :: x) ++ r = (p ++ [c]) ++ x ++ r := by simp
    have hl : p.length < (p ++ (c :: x) ++ r).length := by simp
    have hg : (p ++ (c :: x) ++ r).getD p.length 0 = c := by
      have : p ++ (c :: x) ++ r = p ++ c :: (x ++ r) := by simp
      rw [this]; exact getD_mid _ _ _
    have hb : bg (p ++ (c :: x) ++ r) p.length = (0, p.length + 1) := by
      unfold bg
      rw [hg, if_neg (fun h9 => h c List.mem_cons_self h9.1)]
    rw [List.length_cons, ← Nat.add_assoc, prs_byte hl (by rw [hb]), hb, hg]
    have ih := prs_run x (p ++ [c]) r f (row ++ [c]) acc (fun d hd => h d (List.mem_cons_of_mem _ hd))
    rw [← e] at ih
    rw [List.length_append] at ih
    show prs _ _ (p.length + 1) _ _ = _
    rw [show p.length + [c].length = p.length + 1 from rfl] at ih
    rw [ih, show p.length + 1 + x.length = p.length + (x.length + 1) by omega]
    simp
theorem cls_run (o c : UInt8) (hco : ¬ c = o) : ∀ (x r : Bs) (k : Nat), (∀ d ∈ x, ¬ d = o ∧ ¬ d = c) → cls o c k 0 (x ++ c :: r) = some (k + x.length)
  | [], r, k, _ => by rw [List.nil_append, cls_end o c k r hco]; rfl
  | d :: x, r, k, h => by
    have h0 := h d List.mem_cons_self
    rw [List.cons_append, cls_byte o c d k 0 _ h0.1 h0.2, cls_run o c hco x r (k + 1) (fun e he => h e (List.mem_cons_of_mem _ he)), List.length_cons]
    congr 1
    omega
theorem ia_none : ∀ x : Bs, (∀ d ∈ x, bl d = false) → ia x = -1
  | [], _ => rfl
  | d :: x, h => by rw [ia_cons d x (h d List.mem_cons_self), ia_none x (fun e he => h e (List.mem_cons_of_mem _ he)), if_pos rfl]
/-- what a law's name may hold -/
def Nmd (x : Bs) : Prop := ∀ d ∈ x, ¬ d = 36 ∧ ¬ d = 40 ∧ ¬ d = 41 ∧ bl d = false
theorem prs_ref (a n b : Bs) (ha : a ≠ []) (hb : b ≠ []) (ha1 : ∀ c ∈ a, ¬ c = 36) (hb1 : ∀ c ∈ b, ¬ c = 36) (hn : Nmd n) :
    prs (a ++ [36, 40] ++ n ++ [41] ++ b) ((a ++ [36, 40] ++ n ++ [41] ++ b).length + 1) 0 [] [] = some [⟨1, a, [], []⟩, vr n, ⟨1, b, [], []⟩] := by
  obtain ⟨l, hl⟩ : ∃ l, l = a ++ [36, 40] ++ n ++ [41] ++ b := ⟨_, rfl⟩
  have hlen : l.length = a.length + 2 + n.length + 1 + b.length := by rw [hl]; simp; omega
  rw [← hl]
  have e1 : l = [] ++ a ++ (36 :: 40 :: (n ++ 41 :: b)) := by rw [hl]; simp
  have s1 : prs l (l.length + 1) 0 [] [] = prs l (l.length + 1 - a.length) a.length a [] := by
    have := prs_run a [] (36 :: 40 :: (n ++ 41 :: b)) (l.length + 1 - a.length) [] [] ha1
    rw [← e1] at this
    rw [show l.length + 1 - a.length + a.length = l.length + 1 by omega] at this
    simpa using this
  have g1 : l.getD a.length 0 = 36 := by rw [e1, List.nil_append]; exact getD_mid _ _ _
  have e2 : l = (a ++ [36]) ++ 40 :: (n ++ 41 :: b) := by rw [hl]; simp
  have g2 : l.getD (a.length + 1) 0 = 40 := by
    have := getD_mid (a ++ [36]) 40 (n ++ 41 :: b)
    rw [← e2, List.length_append] at this
    exact this
  have e3 : l = (a ++ [36, 40]) ++ (n ++ 41 :: b) := by rw [hl]; simp
  have d3 : l.drop (a.length + 2) = n ++ 41 :: b := by
    have := drop_mid (a ++ [36, 40]) (n ++ 41 :: b)
    rw [← e3, List.length_append] at this
    exact this
  have hbg : bg l a.length = (2, a.length + 2 + n.length + 1) := by
    unfold bg
    rw [g1, g2, if_pos ⟨rfl, by omega⟩, if_neg (by decide), if_pos (.inr rfl)]
    unfold brk
    rw [show a.length + 1 + 1 = a.length + 2 from rfl, d3, show shut 40 = 41 from rfl, cls_run 40 41 (by decide) n b _ (fun d hd => ⟨(hn d hd).2.1, (hn d hd).2.2.1⟩)]
  have hpc : pc l (a.length + 2) (a.length + 2 + n.length + 1 - 1) = n := by
    unfold pc
    rw [d3, show a.length + 2 + n.length + 1 - 1 - (a.length + 2) = n.length by omega]
    exact List.take_left' rfl
  have hins : ins n = vr n := by
    unfold ins
    rw [ia_none n (fun d hd => (hn d hd).2.2.2), if_pos (by decide)]
  obtain ⟨f, hf⟩ : ∃ f, l.length + 1 - a.length = f + 1 := ⟨l.length - a.length, by omega⟩
  have hfl : fl a [] = [⟨1, a, [], []⟩] := by unfold fl; rw [if_neg ha]; rfl
  rw [s1, hf, prs_long (by omega) (by rw [hbg]), hbg]
  simp only
  rw [hpc, hins, hfl]
  have e4 : l = (a ++ [36, 40] ++ n ++ [41]) ++ b ++ [] := by rw [hl]; simp
  have s4 : ∀ acc, prs l f (a.length + 2 + n.length + 1) [] acc = prs l (f - b.length) l.length b acc := fun acc => by
    have := prs_run b (a ++ [36, 40] ++ n ++ [41]) [] (f - b.length) [] acc hb1
    rw [← e4] at this
    have h5 : (a ++ [36, 40] ++ n ++ [41]).length = a.length + 2 + n.length + 1 := by simp; omega
    rw [h5, show f - b.length + b.length = f by omega, show a.length + 2 + n.length + 1 + b.length = l.length by omega] at this
    simpa using this
  obtain ⟨f2, hf2⟩ : ∃ f2, f - b.length = f2 + 1 := ⟨f - b.length - 1, by omega⟩
  rw [s4, hf2, prs_end (by omega)]
  have hflb : ∀ acc, fl b acc = acc ++ [⟨1, b, [], []⟩] := fun acc => by unfold fl; rw [if_neg hb]
  rw [hflb]
  rfl
theorem prs_two (a b : Bs) (ha1 : ∀ c ∈ a, ¬ c = 36) (hb1 : ∀ c ∈ b, ¬ c = 36) :
    prs (a ++ [36, 36] ++ b) ((a ++ [36, 36] ++ b).length + 1) 0 [] [] = some [⟨1, a ++ [36] ++ b, [], []⟩] := by
  obtain ⟨l, hl⟩ : ∃ l, l = a ++ [36, 36] ++ b := ⟨_, rfl⟩
  have hlen : l.length = a.length + 2 + b.length := by rw [hl]; simp; omega
  rw [← hl]
  have e1 : l = [] ++ a ++ (36 :: 36 :: b) := by rw [hl]; simp
  have s1 : prs l (l.length + 1) 0 [] [] = prs l (l.length + 1 - a.length) a.length a [] := by
    have := prs_run a [] (36 :: 36 :: b) (l.length + 1 - a.length) [] [] ha1
    rw [← e1] at this
    rw [show l.length + 1 - a.length + a.length = l.length + 1 by omega] at this
    simpa using this
  have g1 : l.getD a.length 0 = 36 := by rw [e1, List.nil_append]; exact getD_mid _ _ _
  have e2 : l = (a ++ [36]) ++ 36 :: b := by rw [hl]; simp
  have g2 : l.getD (a.length + 1) 0 = 36 := by
    have := getD_mid (a ++ [36]) 36 b
    rw [← e2, List.length_append] at this
    exact this
  have hbg : bg l a.length = (0, a.length + 2) := by
    unfold bg
    rw [g1, g2, if_pos ⟨rfl, by omega⟩, if_pos rfl]
  obtain ⟨f, hf⟩ : ∃ f, l.length + 1 - a.length = f + 1 := ⟨l.length - a.length, by omega⟩
  rw [s1, hf, prs_byte (by omega) (by rw [hbg]), hbg, g1]
  simp only
  have e4 : l = (a ++ [36, 36]) ++ b ++ [] := by rw [hl]; simp
  have s4 : ∀ row, prs l f (a.length + 2) row [] = prs l (f - b.length) l.length (row ++ b) [] := fun row => by
    have := prs_run b (a ++ [36, 36]) [] (f - b.length) row [] hb1
    rw [← e4] at this
    have h5 : (a ++ [36, 36]).length = a.length + 2 := by simp
    rw [h5, show f - b.length + b.length = f by omega, show a.length + 2 + b.length = l.length by omega] at this
    exact this
  obtain ⟨f2, hf2⟩ : ∃ f2, f - b.length = f2 + 1 := ⟨f - b.length - 1, by omega⟩
  rw [s4, hf2, prs_end (by omega)]
  unfold fl
  rw [if_neg (by simp)]
  rfl
end Go.Proofs.YtaemmgllhmjceaaDoor
