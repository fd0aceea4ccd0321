/- Commands in memory. -/
import Derived.Test.YtcemlhfodpelaaaGreatDoorGt
namespace Go.Proofs.YtcemlhfodpelaaaGreatDoor
open Go.RowKit

/-- a row of cells in a block of S -/
def RowS (w : World) (S : Nat → Prop) (T sz : Nat) (v : Value) (n : Nat) (xs : List Value) : Prop :=
  xs.length = n * sz ∧ ((v = .slice none 0 0 ∧ n = 0) ∨ ∃ g cap cur, v = .slice (some ⟨g, 0, none⟩) n cap ∧ S g ∧ w.heap[g]? = some (.cells cur T (0, 0)) ∧ n ≤ cap ∧ cap ≤ maxLen ∧ cur.size = cap * sz ∧ cur.toList.take (n * sz) = xs ∧ 0 < n)
theorem RowS.own {w : World} {S : Nat → Prop} {T sz n : Nat} {v : Value} {xs : List Value} (h : RowS w S T sz v n xs) : w.ownsRow 0 T sz v n xs := by
  obtain ⟨h1, h2⟩ := h
  refine ⟨h1, ?_⟩
  rcases h2 with h2 | ⟨g, cap, cur, h3, _, h4, h5, h6, h7, h8, _⟩
  · exact .inl h2
  · exact .inr ⟨g, cap, cur, h3, Nat.zero_le _, h4, h5, h6, h7, h8⟩
theorem RowS.of_own {w : World} {S : Nat → Prop} {T sz n B : Nat} {v : Value} {xs : List Value} (h : w.ownsRow B T sz v n xs) (hn : 0 < n) (hS : ∀ g, v.ownBlock = some g → S g) : RowS w S T sz v n xs := by
  obtain ⟨h1, h2⟩ := h
  refine ⟨h1, ?_⟩
  rcases h2 with h2 | ⟨g, cap, cur, rfl, _, h4, h5, h6, h7, h8⟩
  · exact .inl h2
  · exact .inr ⟨g, cap, cur, rfl, hS g rfl, h4, h5, h6, h7, h8, hn⟩
theorem rows_none {w : World} {S : Nat → Prop} {T sz : Nat} {v : Value} {xs : List Value} (h : RowS w S T sz v 0 xs) : v = .slice none 0 0 := by
  rcases h.2 with ⟨e, _⟩ | ⟨g, cap, cur, _, _, _, _, _, _, _, h0⟩
  · exact e
  · omega
theorem RowS.nil (w : World) (S : Nat → Prop) (T sz : Nat) : RowS w S T sz (.slice none 0 0) 0 [] := ⟨by simp, .inl ⟨rfl, rfl⟩⟩
theorem RowS.kept {w w' : World} {S : Nat → Prop} {T sz n : Nat} {v : Value} {xs : List Value} (h : RowS w S T sz v n xs) (hk : ∀ g, S g → g < w.heap.size → w'.heap[g]? = w.heap[g]?) : RowS w' S T sz v n xs := by
  obtain ⟨h1, h2⟩ := h
  refine ⟨h1, ?_⟩
  rcases h2 with h2 | ⟨g, cap, cur, rfl, h3, h4, h5⟩
  · exact .inl h2
  · exact .inr ⟨g, cap, cur, rfl, h3, (hk g h3 (lt_of_block h4)).trans h4, h5⟩
theorem RowS.mono {w : World} {S S' : Nat → Prop} {T sz n : Nat} {v : Value} {xs : List Value} (h : RowS w S T sz v n xs) (hS : ∀ g, S g → g < w.heap.size → S' g) : RowS w S' T sz v n xs := by
  obtain ⟨h1, h2⟩ := h
  refine ⟨h1, ?_⟩
  rcases h2 with h2 | ⟨g, cap, cur, rfl, h3, h4, h5⟩
  · exact .inl h2
  · exact .inr ⟨g, cap, cur, rfl, hS g h3 (lt_of_block h4), h4, h5⟩
theorem RowS.form {w : World} {S : Nat → Prop} {T sz n : Nat} {v : Value} {xs : List Value} (h : RowS w S T sz v n xs) : ∃ a c, v = .slice a n c := by
  rcases h.2 with ⟨rfl, rfl⟩ | ⟨g, cap, cur, rfl, _⟩
  · exact ⟨_, _, rfl⟩
  · exact ⟨_, _, rfl⟩
theorem RowS.blk {w : World} {S : Nat → Prop} {T sz n : Nat} {v : Value} {xs : List Value} (h : RowS w S T sz v n xs) : ∀ g, v.ownBlock = some g → S g ∧ ∃ cur, w.heap[g]? = some (.cells cur T (0, 0)) := fun g hg => by
  rcases h.2 with ⟨rfl, _⟩ | ⟨g', cap, cur, rfl, h3, h4, _⟩
  · cases hg
  · cases hg; exact ⟨h3, cur, h4⟩
abbrev StrsS (w : World) (S : Nat → Prop) (v : Value) (l : List Bs) : Prop := RowS w S 9 1 v l.length (l.map fun x => .string (mk x))
def redC (r : Bs × Bs) : List Value := [.string (mk r.1), .string (mk r.2)]
abbrev RedsS (w : World) (S : Nat → Prop) (v : Value) (l : List (Bs × Bs)) : Prop := RowS w S 65 2 v l.length (l.flatMap redC)
def armC (a : Value × List Value) : List Value := a.1 :: a.2
/-- the seven cells of a command -/
inductive CdAt (w : World) (S : Nat → Prop) : List Value → Cd → Prop where
  | intro (k : Nat) (nt : Bool) (ag ws : List Bs) (rs : List (Bs × Bs)) (ks : List Cd) (ar : List (List Bs × Cd)) (av wv rv kv mv : Value) (kc : List (List Value)) (ac : List (Value × List Value))
    (h1 : StrsS w S av ag) (h2 : StrsS w S wv ws) (h3 : RedsS w S rv rs)
    (h4 : RowS w S 28 7 kv ks.length kc.flatten) (h5 : kc.length = ks.length) (h6 : ∀ (i : Nat) cs c, kc[i]? = some cs → ks[i]? = some c → CdAt w S cs c)
    (h7 : RowS w S 42 8 mv ar.length (ac.flatMap armC)) (h8 : ac.length = ar.length) (h9 : ∀ (i : Nat) a b, ac[i]? = some a → ar[i]? = some b → StrsS w S a.1 b.1) (h10 : ∀ (i : Nat) a b, ac[i]? = some a → ar[i]? = some b → CdAt w S a.2 b.2) :
    CdAt w S [.int .i64 k, .bool nt, av, wv, rv, kv, mv] (.mk k nt ag ws rs ks ar)
theorem CdAt.kept {w w' : World} {S : Nat → Prop} {cs : List Value} {c : Cd} (h : CdAt w S cs c) (hk : ∀ g, S g → g < w.heap.size → w'.heap[g]? = w.heap[g]?) : CdAt w' S cs c := by
  induction h with
  | intro k nt ag ws rs ks ar av wv rv kv mv kc ac h1 h2 h3 h4 h5 h6 h7 h8 h9 h10 ih6 ih10 =>
    exact .intro k nt ag ws rs ks ar av wv rv kv mv kc ac (h1.kept hk) (h2.kept hk) (h3.kept hk) (h4.kept hk) h5 ih6 (h7.kept hk) h8 (fun i a b ha hb => (h9 i a b ha hb).kept hk) ih10
theorem CdAt.mono {w : World} {S S' : Nat → Prop} {cs : List Value} {c : Cd} (h : CdAt w S cs c) (hS : ∀ g, S g → g < w.heap.size → S' g) : CdAt w S' cs c := by
  induction h with
  | intro k nt ag ws rs ks ar av wv rv kv mv kc ac h1 h2 h3 h4 h5 h6 h7 h8 h9 h10 ih6 ih10 =>
    exact .intro k nt ag ws rs ks ar av wv rv kv mv kc ac (h1.mono hS) (h2.mono hS) (h3.mono hS) (h4.mono hS) h5 ih6 (h7.mono hS) h8 (fun i a b ha hb => (h9 i a b ha hb).mono hS) ih10
theorem CdAt.len {w : World} {S : Nat → Prop} {cs : List Value} {c : Cd} (h : CdAt w S cs c) : cs.length = 7 := by cases h; rfl
/-- the seven cells' forms -/
theorem CdAt.form {w : World} {S : Nat → Prop} {cs : List Value} {c : Cd} (h : CdAt w S cs c) : ∃ (k : Nat) (nt : Bool) (a1 a2 a3 a4 a5 : Option Addr) (n1 n2 n3 n4 n5 c1 c2 c3 c4 c5 : Nat), cs = [.int .i64 k, .bool nt, .slice a1 n1 c1, .slice a2 n2 c2, .slice a3 n3 c3, .slice a4 n4 c4, .slice a5 n5 c5] := by
  cases h with
  | intro k nt ag ws rs ks ar av wv rv kv mv kc ac h1 h2 h3 h4 h5 h6 h7 h8 h9 h10 =>
    obtain ⟨a1, c1, rfl⟩ := h1.form
    obtain ⟨a2, c2, rfl⟩ := h2.form
    obtain ⟨a3, c3, rfl⟩ := h3.form
    obtain ⟨a4, c4, rfl⟩ := h4.form
    obtain ⟨a5, c5, rfl⟩ := h7.form
    exact ⟨k, nt, a1, a2, a3, a4, a5, _, _, _, _, _, c1, c2, c3, c4, c5, rfl⟩
/-- commands in a row that is being built: none has a part in the row's own block -/
structure KidsS (w : World) (S : Nat → Prop) (kv : Value) (kc : List (List Value)) (ks : List Cd) : Prop where
  row : RowS w S 28 7 kv ks.length kc.flatten
  len : kc.length = ks.length
  kid : ∀ (i : Nat) cs c, kc[i]? = some cs → ks[i]? = some c → CdAt w (fun g => S g ∧ kv.ownBlock ≠ some g) cs c
abbrev KidsAt (w : World) (B : Nat) (kv : Value) (kc : List (List Value)) (ks : List Cd) : Prop := KidsS w (fun g => B ≤ g) kv kc ks
theorem KidsS.nil (w : World) (S : Nat → Prop) : KidsS w S (.slice none 0 0) [] [] := ⟨RowS.nil _ _ _ _, rfl, fun i cs c h => by simp at h⟩
theorem KidsAt.nil (w : World) (B : Nat) : KidsAt w B (.slice none 0 0) [] [] := KidsS.nil _ _
theorem KidsS.kept {w w' : World} {S : Nat → Prop} {kv : Value} {kc : List (List Value)} {ks : List Cd} (h : KidsS w S kv kc ks) (hk : ∀ g, S g → g < w.heap.size → w'.heap[g]? = w.heap[g]?) : KidsS w' S kv kc ks :=
  ⟨h.row.kept hk, h.len, fun i cs c h1 h2 => (h.kid i cs c h1 h2).kept fun g hg hl => hk g hg.1 hl⟩
theorem KidsS.mono {w : World} {S S' : Nat → Prop} {kv : Value} {kc : List (List Value)} {ks : List Cd} (h : KidsS w S kv kc ks) (hS : ∀ g, S g → g < w.heap.size → S' g) : KidsS w S' kv kc ks :=
  ⟨h.row.mono hS, h.len, fun i cs c h1 h2 => (h.kid i cs c h1 h2).mono fun g hg hl => ⟨hS g hg.1 hl, hg.2⟩⟩
theorem KidsS.lt {w : World} {S : Nat → Prop} {kv : Value} {kc : List (List Value)} {ks : List Cd} (h : KidsS w S kv kc ks) : ∀ g, kv.ownBlock = some g → S g ∧ g < w.heap.size := fun g hg => by
  obtain ⟨h1, cur, h2⟩ := h.row.blk g hg
  exact ⟨h1, lt_of_block h2⟩
/-- a command more -/
theorem KidsS.push {w w' : World} {S : Nat → Prop} {g cap : Nat} {kv : Value} {kc : List (List Value)} {ks : List Cd} {cs : List Value} {c : Cd} (h : KidsS w S kv kc ks) (hc : CdAt w (fun g => S g ∧ kv.ownBlock ≠ some g) cs c) (hS0 : S w.heap.size)
    (ho : w'.ownsRow 0 28 7 (.slice (some ⟨g, 0, none⟩) (ks.length + 1) cap) (ks.length + 1) (kc.flatten ++ cs)) (hg : w.grownBy w' kv.ownBlock) (hat : kv.ownBlock = some g ∨ g = w.heap.size) : KidsS w' S (.slice (some ⟨g, 0, none⟩) (ks.length + 1) cap) (kc ++ [cs]) (ks ++ [c]) := by
  have hS : ∀ g', (S g' ∧ kv.ownBlock ≠ some g') → g' < w.heap.size → (S g' ∧ (Value.slice (some ⟨g, 0, none⟩) (ks.length + 1) cap).ownBlock ≠ some g') := fun g' h1 h2 => ⟨h1.1, fun e => by
    have e : g = g' := Option.some.inj e
    rcases hat with h3 | h3
    · exact h1.2 (by rw [h3, e])
    · omega⟩
  have hk : ∀ g', (S g' ∧ (Value.slice (some ⟨g, 0, none⟩) (ks.length + 1) cap).ownBlock ≠ some g') ∧ (S g' ∧ kv.ownBlock ≠ some g') → g' < w.heap.size → w'.heap[g']? = w.heap[g']? := fun g' h1 h2 => hg.block g' h2 fun e => h1.2.2 e.symm
  have both : ∀ {cs : List Value} {c : Cd}, CdAt w (fun g => S g ∧ kv.ownBlock ≠ some g) cs c → CdAt w' (fun g' => S g' ∧ (Value.slice (some ⟨g, 0, none⟩) (ks.length + 1) cap).ownBlock ≠ some g') cs c := fun {cs c} h1 =>
    ((h1.mono (S' := fun g' => (S g' ∧ (Value.slice (some ⟨g, 0, none⟩) (ks.length + 1) cap).ownBlock ≠ some g') ∧ (S g' ∧ kv.ownBlock ≠ some g')) fun g' h2 h3 => ⟨hS g' h2 h3, h2⟩).kept hk).mono fun g' h2 _ => h2.1
  refine ⟨?_, by simp [h.len], fun i cs' c' h1 h2 => ?_⟩
  · rw [List.length_append, List.flatten_append]
    refine RowS.of_own (B := 0) (by simpa using ho) (by simp) fun g' e => ?_
    have e : g = g' := Option.some.inj e
    rcases hat with h3 | h3
    · rw [← e]; exact (h.lt g h3).1
    · rw [← e, h3]; exact hS0
  · by_cases hi : i < kc.length
    · rw [List.getElem?_append_left hi] at h1
      rw [List.getElem?_append_left (by rw [← h.len]; exact hi)] at h2
      exact both (h.kid i cs' c' h1 h2)
    · rw [List.getElem?_append_right (by omega)] at h1
      rw [List.getElem?_append_right (by rw [← h.len]; omega), ← h.len] at h2
      have hi0 : i - kc.length = 0 := by
        rcases Nat.eq_zero_or_pos (i - kc.length) with h3 | h3
        · exact h3
        · rw [List.getElem?_eq_none (by simp; omega)] at h1; cases h1
      rw [hi0] at h1 h2
      cases (Option.some.inj h1)
      cases (Option.some.inj h2)
      exact both hc
/-- a command of kids alone -/
theorem KidsS.cmd {w : World} {S : Nat → Prop} {kv : Value} {kc : List (List Value)} {ks : List Cd} (h : KidsS w S kv kc ks) (k : Nat) (nt : Bool) : CdAt w S [.int .i64 k, .bool nt, .slice none 0 0, .slice none 0 0, .slice none 0 0, kv, .slice none 0 0] (.mk k nt [] [] [] ks []) :=
  .intro k nt [] [] [] ks [] _ _ _ kv _ kc [] (RowS.nil _ _ _ _) (RowS.nil _ _ _ _) (RowS.nil _ _ _ _) h.row h.len (fun i cs c h1 h2 => (h.kid i cs c h1 h2).mono fun _ h3 _ => h3.1) (RowS.nil _ _ _ _) rfl (fun i a b h1 => by simp at h1) (fun i a b h1 => by simp at h1)
/-- what a call of the parser tells -/
def PrR {α : Type} (x : Cx) (w : World) (r : PR α) (V : World → α → Value → Prop) (e : Ending) (w' : World) : Prop := match r with
  | .ok a s => Gr x w w' ∧ PsAt w' x s ∧ ∃ v, e = .returned v ∧ V w' a v
  | .bad => Gv x w 31 e w'
  | .out => True
def CmdV (B : Nat) (w' : World) (c : Cd) (v : Value) : Prop := ∃ cs, v = .agg cs.toArray ∧ CdAt w' (fun g => B ≤ g) cs c
def ListV (B : Nat) (w' : World) (l : List Cd) (v : Value) : Prop := ∃ kv kc, v = .agg #[.int .i64 5, .bool false, .slice none 0 0, .slice none 0 0, .slice none 0 0, kv, .slice none 0 0] ∧ KidsAt w' B kv kc l
end Go.Proofs.YtcemlhfodpelaaaGreatDoor
