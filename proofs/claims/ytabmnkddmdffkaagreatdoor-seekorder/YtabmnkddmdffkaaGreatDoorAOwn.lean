/- A file system with blocks of its own, and what becomes of it when a node is laid, or taken away. -/
import Derived.Test.YtabmnkddmdffkaaGreatDoorAPut
namespace Go.Proofs.YtabmnkddmdffkaaGreatDoor
open Go.RowKit Go.Maps

theorem Own.sub {w : World} {S : Nat → Prop} {A M : Nat} {L L' : Ents} (h : Own w S A M L) (hs : ∀ e ∈ L', e ∈ L) : Own w S A M L' :=
  ⟨h.sA, h.sM, fun e he => h.sB e (hs e he), fun e he => h.sD e (hs e he), fun e he => h.dat e (hs e he), fun a ha b hb => h.apB a (hs a ha) b (hs b hb), fun a ha b hb => h.apD a (hs a ha) b (hs b hb)⟩
theorem dat_ne {w : World} {v : Value} {bs : Bs} {A M : Nat} {wt clk rm : Int} (h : Dat w v bs) (hf : Fb w A M wt clk rm) : ∀ g, v.ownBlock = some g → g ≠ A := by
  intro g hg e
  obtain ⟨cur, hc⟩ := h.elem g hg
  unfold Fb at hf
  rw [e, hf] at hc
  simp at hc
theorem dat_ne_map {w : World} {v : Value} {bs : Bs} {M : Nat} {L : Ents} (h : Dat w v bs) (hm : Mp w M L) : ∀ g, v.ownBlock = some g → g ≠ M := by
  intro g hg e
  obtain ⟨cur, hc⟩ := h.elem g hg
  obtain ⟨es, c, hmm⟩ := hm.isMap
  rw [e, hmm] at hc
  cases hc
theorem dat_ne_node {w : World} {v : Value} {bs : Bs} {e : En} (h : Dat w v bs) (hn : NodeAt w e) : ∀ g, v.ownBlock = some g → g ≠ e.blk := by
  intro g hg e1
  obtain ⟨cur, hc⟩ := h.elem g hg
  unfold NodeAt at hn
  rw [e1, hn] at hc
  simp at hc
theorem Mp.congr {w : World} {M : Nat} {L L' : Ents} (h : Mp w M L) (hb : blks L' = blks L) : Mp w M L' := by
  have hl : L'.length = L.length := by have := congrArg List.length hb; simpa [blks] using this
  unfold Mp at h ⊢
  rw [hb, hl]; exact h
theorem put_aged (L : Ents) (p : Bs) (e : En) (t : Int) : blks (put L p (aged e t)) = blks (put L p e) := by rw [blks_put, blks_put]; rfl

/-- the blocks that are added with a node -/
def withNode (S : Nat → Prop) (e : En) : Nat → Prop := fun i => S i ∨ i = e.blk ∨ e.dv.ownBlock = some i
/-- a node is laid at p -/
theorem fs_put {w w3 : World} {S : Nat → Prop} {A M : Nat} {L : Ents} {wt clk rm wt' clk' : Int} {p : Bs} {e : En} {t : Int} (h : FsAt w A M L wt clk rm) (o : Own w S A M (del L p)) (hp : p.length ≤ 1000)
    (hn : NodeAt w e) (hd : Dat w e.dv e.nd.data) (hfb : ∀ x ∈ del L p, x.2.blk ≠ e.blk) (hfd : ∀ x ∈ del L p, ∀ g, x.2.dv.ownBlock = some g → e.dv.ownBlock ≠ some g)
    (h3 : Fb w3 A M wt' clk' rm) (m3 : Mp w3 M (put L p e)) (n3 : NodeAt w3 (aged e t)) (ht : Turn (Three A M e.blk) w w3) :
    FsAt w3 A M (put L p (aged e t)) wt' clk' rm ∧ Own w3 (withNode S e) A M (put L p (aged e t)) := by
  have hA := node_ne hn h.fb
  have hM := node_ne_map hn h.mp
  have keepB : ∀ x ∈ del L p, w3.heap[x.2.blk]? = w.heap[x.2.blk]? := fun x hx => by
    have hx' := h.nodes x (mem_del.1 hx).1
    refine ht.block _ hx'.lt (fun hs => ?_)
    rcases hs with e1 | e1 | e1
    · exact node_ne hx' h.fb e1
    · exact node_ne_map hx' h.mp e1
    · exact hfb x hx e1
  have keepD : ∀ x ∈ del L p, ∀ g, x.2.dv.ownBlock = some g → w3.heap[g]? = w.heap[g]? := fun x hx g hg => by
    have hx' := o.dat x hx
    refine ht.block _ (hx'.lt g hg) (fun hs => ?_)
    rcases hs with e1 | e1 | e1
    · exact dat_ne hx' h.fb g hg e1
    · exact dat_ne_map hx' h.mp g hg e1
    · exact dat_ne_node hx' hn g hg e1
  have keepE : ∀ g, e.dv.ownBlock = some g → w3.heap[g]? = w.heap[g]? := fun g hg => by
    refine ht.block _ (hd.lt g hg) (fun hs => ?_)
    rcases hs with e1 | e1 | e1
    · exact dat_ne hd h.fb g hg e1
    · exact dat_ne_map hd h.mp g hg e1
    · exact dat_ne_node hd hn g hg e1
  have hd3 : Dat w3 e.dv e.nd.data := hd.kept keepE
  have cases_ : ∀ x ∈ put L p (aged e t), x = (p, aged e t) ∨ x ∈ del L p := fun x hx => by
    rcases mem_put.1 hx with h1 | h1
    · exact .inl h1
    · exact .inr (mem_del.2 h1)
  refine ⟨⟨h3, m3.congr (put_aged L p e t), ?_, ?_, h.srt.put _ _, ?_⟩, ⟨.inl o.sA, .inl o.sM, ?_, ?_, ?_, ?_, ?_⟩⟩
  · intro x hx
    rcases cases_ x hx with rfl | hx
    · exact n3
    · exact (keepB x hx).trans (h.nodes x (mem_del.1 hx).1)
  · intro x hx
    rcases cases_ x hx with rfl | hx
    · exact hd3.rds
    · exact ((o.dat x hx).kept (keepD x hx)).rds
  · intro x hx
    rcases cases_ x hx with rfl | hx
    · exact hp
    · exact h.keys x (mem_del.1 hx).1
  · intro x hx
    rcases cases_ x hx with rfl | hx
    · exact .inr (.inl rfl)
    · exact .inl (o.sB x hx)
  · intro x hx g hg
    rcases cases_ x hx with rfl | hx
    · exact .inr (.inr hg)
    · exact .inl (o.sD x hx g hg)
  · intro x hx
    rcases cases_ x hx with rfl | hx
    · exact hd3
    · exact (o.dat x hx).kept (keepD x hx)
  · intro a ha b hb hab
    rcases cases_ a ha with rfl | ha
    · rcases cases_ b hb with rfl | hb
      · rfl
      · exact absurd hab.symm (hfb b hb)
    · rcases cases_ b hb with rfl | hb
      · exact absurd hab (hfb a ha)
      · exact o.apB a ha b hb hab
  · intro a ha b hb g hga hgb
    rcases cases_ a ha with rfl | ha
    · rcases cases_ b hb with rfl | hb
      · rfl
      · exact absurd hga (hfd b hb g hgb)
    · rcases cases_ b hb with rfl | hb
      · exact absurd hgb (hfd a ha g hga)
      · exact o.apD a ha b hb g hga hgb

/-- a file system with the tree T, its blocks among S -/
structure IsFs (w : World) (S : Nat → Prop) (A : Nat) (T : List (Bs × Nd)) (clk rm : Int) : Prop where
  mem : ∃ M L, FsAt w A M L (weight T) clk rm ∧ Own w S A M L ∧ nds L = T
  wt : (weight T : Int) ≤ rm
  rm : rm ≤ 1048576
  clk0 : 0 ≤ clk
  len : T.length ≤ 1000
theorem sumOf_ge {α : Type} (f : α → Nat) {L : List (Bs × α)} {x : Bs × α} (h : x ∈ L) : f x.2 ≤ sumOf f L := by
  induction L with
  | nil => cases h
  | cons y r ih =>
    rcases List.mem_cons.1 h with rfl | h
    · simp only [sumOf]; omega
    · have := ih h; simp only [sumOf]; omega
theorem sumOf_length {α : Type} (f : α → Nat) (L : List (Bs × α)) (h : ∀ x, 1 ≤ f x) : L.length ≤ sumOf f L := by
  induction L with
  | nil => exact Nat.le_refl _
  | cons y r ih => have := h y.2; simp only [sumOf, List.length_cons]; omega
theorem weight_nds (L : Ents) : weight (nds L) = sumOf (fun e => e.nd.wt) L := sumOf_map _ _ _
theorem data_le {L : Ents} {n : Nat} (h : weight (nds L) ≤ n) : ∀ e ∈ L, e.2.nd.data.length ≤ n := fun e he => by
  rw [weight_nds] at h
  have := sumOf_ge (fun e : En => e.nd.wt) he
  simp only [Nd.wt] at this
  simp only [Nd.wt] at h
  omega
theorem len_le {L : Ents} {n : Nat} (h : weight (nds L) ≤ n) : L.length ≤ n := by
  rw [weight_nds] at h
  have := sumOf_length (fun e : En => e.nd.wt) L (fun e => by simp only [Nd.wt]; omega)
  simp only [Nd.wt] at this
  simp only [Nd.wt] at h
  omega
theorem wtAt_sum {L : Ents} (h : Srt L) (p : Bs) : sumOf (fun e : En => e.nd.wt) (del L p) + wtAt L p = sumOf (fun e : En => e.nd.wt) L := by
  have := sumOf_del (fun e : En => e.nd.wt) h p
  unfold wtAt
  cases hf : fnd L p <;> rw [hf] at this <;> exact this
theorem weight_put {L : Ents} (h : Srt L) (p : Bs) (e : En) : (weight (nds (put L p e)) : Int) = weight (nds L) - wtAt L p + e.nd.wt := by
  rw [weight_nds, weight_nds, sumOf_put]
  have := wtAt_sum h p
  omega
theorem weight_del {L : Ents} (h : Srt L) (p : Bs) : (weight (nds (del L p)) : Int) = weight (nds L) - wtAt L p := by
  rw [weight_nds, weight_nds]
  have := wtAt_sum h p
  omega
theorem IsFs.below {w w' : World} {S : Nat → Prop} {A : Nat} {T : List (Bs × Nd)} {clk rm : Int} (h : IsFs w S A T clk rm) (hb : Below w.heap.size w w') : IsFs w' S A T clk rm := by
  obtain ⟨M, L, h1, h2, h3⟩ := h.mem
  exact ⟨⟨M, L, h1.below hb, h2.below hb, h3⟩, h.wt, h.rm, h.clk0, h.len⟩
theorem IsFs.apart {w w' : World} {S : Nat → Prop} {A : Nat} {T : List (Bs × Nd)} {clk rm : Int} (h : IsFs w S A T clk rm) (hs : w.heap.size ≤ w'.heap.size) (hk : ∀ b, S b → w'.heap[b]? = w.heap[b]?) : IsFs w' S A T clk rm := by
  obtain ⟨M, L, h1, h2, h3⟩ := h.mem
  exact ⟨⟨M, L, h1.apart h2 hs hk, h2.apart hk, h3⟩, h.wt, h.rm, h.clk0, h.len⟩
end Go.Proofs.YtabmnkddmdffkaaGreatDoor
