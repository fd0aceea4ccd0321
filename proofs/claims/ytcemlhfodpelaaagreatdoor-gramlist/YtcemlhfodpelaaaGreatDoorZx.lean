/- Rows of words and redirections of a command that is being built. Redirections and words as calls of the parser tell them; rows that are grown in a box. -/
import Derived.Test.YtcemlhfodpelaaaGreatDoorGao
import Derived.Test.YtcemlhfodpelaaaGreatDoorZp
namespace Go.Proofs.YtcemlhfodpelaaaGreatDoor
open Go.RowKit

theorem infoStr : (Tryz.prog.info? 9).map (fun i : TypeInfo => (i.zero, i.size, i.bytes)) = some (some (.string ⟨#[]⟩), 1, 16) := by kernel_rfl
theorem infoRed : (Tryz.prog.info? 65).map (fun i : TypeInfo => (i.zero, i.size, i.bytes)) = some (some (.agg #[.string ⟨#[]⟩, .string ⟨#[]⟩]), 2, 32) := by kernel_rfl
/-- a row is grown by one thing -/
theorem RowS.push {w w' : World} {S : Nat → Prop} {T sz n g cap : Nat} {kv : Value} {xs news : List Value} (h : RowS w S T sz kv n xs) (hS0 : S w.heap.size)
    (ho : w'.ownsRow 0 T sz (.slice (some ⟨g, 0, none⟩) (n + 1) cap) (n + 1) (xs ++ news)) (hat : kv.ownBlock = some g ∨ g = w.heap.size) : RowS w' S T sz (.slice (some ⟨g, 0, none⟩) (n + 1) cap) (n + 1) (xs ++ news) :=
  RowS.of_own (B := 0) ho (Nat.succ_pos n) fun g' e => by
    have e : g = g' := Option.some.inj e
    rcases hat with h3 | h3
    · rw [← e]; exact (h.blk g h3).1
    · rw [← e, h3]; exact hS0
/-- a command whose redirections lie apart -/
theorem with_redirs {w : World} {S : Nat → Prop} {k : Nat} {nt : Bool} {av wv rv kv mv r0 : Value} {ag ws : List Bs} {rs : List (Bs × Bs)} {ks : List Cd} {ar : List (List Bs × Cd)} (h : CdAt w S [.int .i64 k, .bool nt, av, wv, r0, kv, mv] (.mk k nt ag ws [] ks ar)) (hr : RedsS w S rv rs) : CdAt w S [.int .i64 k, .bool nt, av, wv, rv, kv, mv] (.mk k nt ag ws rs ks ar) := by
  cases h with
  | intro _ _ _ _ _ _ _ _ _ _ _ _ kc ac h1 h2 h3 h4 h5 h6 h7 h8 h9 h10 => exact .intro k nt ag ws rs ks ar av wv rv kv mv kc ac h1 h2 hr h4 h5 h6 h7 h8 h9 h10
theorem cd_head {w : World} {S : Nat → Prop} {k k' : Nat} {nt nt' : Bool} {v2 v3 v4 v5 v6 : Value} {ag ws : List Bs} {rs : List (Bs × Bs)} {ks : List Cd} {ar : List (List Bs × Cd)} (h : CdAt w S [.int .i64 k, .bool nt, v2, v3, v4, v5, v6] (.mk k' nt' ag ws rs ks ar)) : k = k' ∧ nt = nt' := by
  generalize hl : [Value.int .i64 k, .bool nt, v2, v3, v4, v5, v6] = l at h
  cases h with
  | intro _ _ _ _ _ _ _ _ _ _ _ _ kc ac h1 h2 h3 h4 h5 h6 h7 h8 h9 h10 =>
    injection hl with e1 e2
    injection e2 with e2 _
    injection e1 with _ e1
    injection e2 with e2
    exact ⟨by omega, e2⟩
/-- the redirections of such a command are none -/
theorem cd_bare {w : World} {S : Nat → Prop} {k : Nat} {nt : Bool} {v2 v3 v4 v5 v6 : Value} {ag ws : List Bs} {ks : List Cd} {ar : List (List Bs × Cd)} {k' : Nat} {nt' : Bool} (h : CdAt w S [.int .i64 k, .bool nt, v2, v3, v4, v5, v6] (.mk k' nt' ag ws [] ks ar)) : RowS w S 65 2 v4 0 [] := by
  generalize hl : [Value.int .i64 k, .bool nt, v2, v3, v4, v5, v6] = l at h
  cases h with
  | intro _ _ _ _ _ _ _ _ _ _ _ _ kc ac h1 h2 h3 h4 h5 h6 h7 h8 h9 h10 =>
    injection hl with _ hl
    injection hl with _ hl
    injection hl with _ hl
    injection hl with _ hl
    injection hl with e _
    rw [e]
    exact h3
end Go.Proofs.YtcemlhfodpelaaaGreatDoor
namespace Go.Proofs.YtcemlhfodpelaaaGreatDoor
open Go.RowKit

def RedV (_ : World) (r : Bs × Bs) (v : Value) : Prop := v = .agg #[.string (mk r.1), .string (mk r.2)]
def WordV (_ : World) (r : Bs) (v : Value) : Prop := v = .string (mk r)
theorem word_step {x : Cx} (w : World) (s : PS) (h : PsAt w x s) : Calls Tryz.prog 59 #[ptr x.A] w (PrR x w (wordP s) WordV) := by
  unfold wordP
  by_cases hk : kd s.ts = 1
  · rw [if_pos hk]
    refine (word_yes h hk).mono ?_
    rintro e w' ⟨rfl, h1, g1⟩
    exact ⟨g1, h1, _, rfl, rfl⟩
  · rw [if_neg hk]
    exact word_no h hk
set_option maxHeartbeats 2000000 in
theorem redir_no {w : World} {x : Cx} {s : PS} (h : PsAt w x s) (ht : tx s.ts ≠ []) (he : kd s.ts.tail ≠ 1) : Calls Tryz.prog 141 #[ptr x.A] w fun e w' => Gv x w 31 e w' := by
  have hb0 : Below w.heap.size w (w.alloc (.cells #[.string ⟨#[]⟩, .string ⟨#[]⟩] 65)) := (Below.refl _ _).alloc (Nat.le_refl _) _
  obtain ⟨W, hW⟩ : ∃ W, W = w.alloc (.cells #[.string ⟨#[]⟩, .string ⟨#[]⟩] 65) := ⟨_, rfl⟩
  rw [← hW] at hb0
  have h0 := h.below hb0
  have g0 : Gr x w W := Gr.of_below hb0
  have q := text_any h0
  have HH := hide' (And.intro h0 (And.intro g0 (And.intro ht he)))
  have HW := hide' hW
  clear h hb0 h0 g0 ht he hW
  go_enter Tryz.func141, Tryz.ntmps141
  go_wp2_with fail
  rw [← HW.out]
  refine q.mono ?_
  rintro e w1 ⟨rfl, n, hw1⟩
  clear q
  have h1 : PsAt w1 x s := by rw [hw1]; exact HH.out.1.drewN n
  have g1 : Gr x w w1 := by rw [hw1]; exact HH.out.2.1.trans (Gr.drewN x _ n)
  obtain ⟨p, a1, f1, hw, hP, hG⟩ := nx_facts h1 HH.out.2.2.1
  have q2 := word_no hP HH.out.2.2.2
  have HP := hide' (g1.trans hG)
  clear hw1 h1 g1 hP hG
  dsimp only
  obtain ⟨A, M, g, cap, tk⟩ := x
  dsimp only at *
  go_wp2_with fail
  refine q2.mono ?_
  rintro e w2 ⟨hG2, b, p, rfl, hb⟩
  exact ⟨rfl, HP.out.trans hG2, b, p, rfl, hb⟩
theorem redir_step {x : Cx} (w : World) (s : PS) (h : PsAt w x s) (ht : tx s.ts ≠ []) : Calls Tryz.prog 141 #[ptr x.A] w (PrR x w (redirP s) RedV) := by
  unfold redirP wordP
  by_cases hk : kd s.nx.ts = 1
  · rw [if_pos hk]
    refine (redir_yes h ht hk).mono ?_
    rintro e w' ⟨rfl, h1, g1⟩
    exact ⟨g1, h1, _, rfl, rfl⟩
  · rw [if_neg hk]
    exact redir_no h ht hk
/-- a row of a box is grown by one thing -/
theorem push_row {x : Cx} {w0 w2 w3 w4 : World} {s : PS} {bx g cap T sz n f : Nat} {vals cells : Array Value} {kv : Value} {xs news : List Value}
    (hB : BoxAt x w0 w3 s bx vals) (hR : RowS w2 (KS w0 bx) T sz kv n xs) (hT : T ≠ 73 ∧ T ≠ 60 ∧ T ≠ 3) (hG : Gr x w2 w3) (hA : x.A < w0.heap.size) (hbx : bx < w2.heap.size)
    (ho : w4.ownsRow 0 T sz (.slice (some ⟨g, 0, none⟩) (n + 1) cap) (n + 1) (xs ++ news)) (hg : (w3.alloc (.cells cells T)).grownBy w4 kv.ownBlock) (hat : kv.ownBlock = some g ∨ g = (w3.alloc (.cells cells T)).heap.size) :
    BoxAt x w0 w4 s bx vals ∧ BoxAt x w0 (w4.setCell ⟨bx, f, none⟩ (.slice (some ⟨g, 0, none⟩) (n + 1) cap)) s bx (vals.setIfInBounds f (.slice (some ⟨g, 0, none⟩) (n + 1) cap)) ∧
      RowS (w4.setCell ⟨bx, f, none⟩ (.slice (some ⟨g, 0, none⟩) (n + 1) cap)) (KS w0 bx) T sz (.slice (some ⟨g, 0, none⟩) (n + 1) cap) (n + 1) (xs ++ news) ∧
      (∀ b, KS w0 bx b → b < w2.heap.size → kv.ownBlock ≠ some b → (w4.setCell ⟨bx, f, none⟩ (.slice (some ⟨g, 0, none⟩) (n + 1) cap)).heap[b]? = w2.heap[b]?) ∧
      (∀ b, b < w2.heap.size → kv.ownBlock ≠ some b → (Value.slice (some ⟨g, 0, none⟩) (n + 1) cap).ownBlock ≠ some b) := by
  have hb : Below w3.heap.size w3 (w3.alloc (.cells cells T)) := (Below.refl _ _).alloc (Nat.le_refl _) _
  have hs : (w3.alloc (.cells cells T)).heap.size = w3.heap.size + 1 := by simp
  generalize w3.alloc (.cells cells T) = W at *
  have hs2 := hG.size
  have hlo := hB.lo
  have hRW : RowS W (KS w0 bx) T sz kv n xs := (hR.kept fun g' hg' hl => hG.block g' hl fun e => by have := Option.some.inj e; have := hg'.1; omega).kept fun g' _ hl => hb.block g' hl
  have hR4 := hRW.push ⟨by omega, by omega⟩ ho hat
  have hB4 : BoxAt x w0 w4 s bx vals := (hB.below hb).grown hg hT fun b e => by
    obtain ⟨h1, cur, h2⟩ := hRW.blk b e
    exact ⟨by have := h1.1; omega, h1.2, cur, h2⟩
  refine ⟨hB4, hB4.set f _, hR4.kept fun g' hg' _ => set_oth hg'.2, fun b h1 h2 h3 => ?_, fun b h1 h2 e => ?_⟩
  · rw [set_oth h1.2, hg.block b (by omega) fun e => h3 e.symm, hb.block b (by omega)]
    exact hG.block b h2 fun e => by have := Option.some.inj e; have := h1.1; omega
  · have e : g = b := Option.some.inj e
    rcases hat with h3 | h3
    · exact h2 (by rw [h3, e])
    · omega
end Go.Proofs.YtcemlhfodpelaaaGreatDoor
