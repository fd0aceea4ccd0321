/- The contract of the law TextJoins: it answers true whatever the list of texts is. -/
import Derived.Test.YtjfbnjajekedlaaDoorRefJoin
import Derived.Test.YtjfbnjajekedlaaDoorWordsLaw
namespace Go.Proofs.YtjfbnjajekedlaaDoor
open Go.RowKit Go.Shelf

def good (x : List UInt8) : Prop := x.isEmpty = false ∧ ∀ c ∈ x, bl c = false
theorem wgo_good (l : List UInt8) : ∀ cur : List UInt8, (∀ c ∈ cur, bl c = false) → ∀ x ∈ wgo cur l, good x := by
  induction l with
  | nil =>
    intro cur h x hx
    by_cases hc : cur.isEmpty = true
    · simp [wgo, hc] at hx
    · simp only [wgo, hc] at hx
      simp at hx
      subst hx
      exact ⟨by simpa using hc, h⟩
  | cons c r ih =>
    intro cur h x hx
    by_cases hb : bl c = true
    · by_cases hc : cur.isEmpty = true
      · simp only [wgo, hb, hc, if_true] at hx
        exact ih [] (fun _ h => by cases h) x hx
      · simp only [wgo, hb, hc, if_true] at hx
        rcases List.mem_cons.1 hx with rfl | hx
        · exact ⟨by simpa using hc, h⟩
        · exact ih [] (fun _ h => by cases h) x hx
    · simp only [wgo, hb] at hx
      refine ih (cur ++ [c]) (fun d hd => ?_) x hx
      rcases List.mem_append.1 hd with hd | hd
      · exact h d hd
      · obtain rfl : d = c := by simpa using hd
        simpa using hb
theorem words_good (l : List UInt8) : ∀ x ∈ words l, good x := wgo_good l [] (fun _ h => by cases h)
theorem wgo_word (m : List UInt8) : ∀ cur rest : List UInt8, (∀ c ∈ m, bl c = false) → wgo cur (m ++ rest) = wgo (cur ++ m) rest := by
  induction m with
  | nil => intro cur rest _; simp
  | cons c m ih =>
    intro cur rest h
    have hc : bl c = false := h c (by simp)
    rw [List.cons_append, wgo, if_neg (by rw [hc]; decide), ih _ _ (fun d hd => h d (by simp [hd]))]
    simp
theorem words_more (x r : List UInt8) (h : good x) : words (x ++ 32 :: r) = x :: words r := by
  unfold words
  rw [wgo_word x [] _ h.2, List.nil_append, wgo, if_pos (by decide), if_neg (by rw [h.1]; decide)]
theorem words_one (x : List UInt8) (h : good x) : words x = [x] := by
  unfold words
  have := wgo_word x [] [] h.2
  rw [List.append_nil, List.nil_append] at this
  rw [this, wgo, if_neg (by rw [h.1]; decide)]
theorem words_jr (r : List ByteArray) : ∀ x : ByteArray, good (tl x) → (∀ y ∈ r, good (tl y)) → words (tl x ++ jr [32] false r) = tl x :: r.map tl := by
  induction r with
  | nil => intro x h _; simp only [jr, List.append_nil, List.map_nil]; exact words_one _ h
  | cons y r ih =>
    intro x h hr
    have e : tl x ++ jr [32] false (y :: r) = tl x ++ 32 :: (tl y ++ jr [32] false r) := by simp [jr]
    rw [e, words_more _ _ h, ih y (hr y (by simp)) (fun z hz => hr z (by simp [hz]))]
    rfl
theorem words_jn (L : List ByteArray) (h : ∀ y ∈ L, good (tl y)) : words (jn L) = L.map tl := by
  cases L with
  | nil => rfl
  | cons x r =>
    have e : jn (x :: r) = tl x ++ jr [32] false r := by simp [jn, jr]
    rw [e, words_jr r x (h x (by simp)) (fun z hz => h z (by simp [hz]))]
    rfl
def tw : List (List UInt8) → Nat
  | [] => 0
  | x :: r => 1 + x.length + tw r
theorem tot_tw (L : List ByteArray) : tot L = tw (L.map tl) := by
  induction L with
  | nil => rfl
  | cons x r ih => simp only [tot, List.map_cons, tw, ih, show (tl x).length = x.size from (Lib.size_eq x).symm]
theorem wgo_tw (l : List UInt8) : ∀ cur : List UInt8, tw (wgo cur l) ≤ cur.length + l.length + 1 := by
  induction l with
  | nil =>
    intro cur
    by_cases hc : cur.isEmpty = true
    · simp [wgo, hc, tw]
    · simp [wgo, hc, tw]; omega
  | cons c r ih =>
    intro cur
    by_cases hb : bl c = true
    · by_cases hc : cur.isEmpty = true
      · simp only [wgo, hb, hc, if_true]
        have := ih []
        simp at this ⊢
        omega
      · have := ih []
        simp [wgo, hb, hc, tw] at this ⊢
        omega
    · simp only [wgo, hb]
      have := ih (cur ++ [c])
      simp at this ⊢
      omega
theorem tot_words (L : List ByteArray) (l : List UInt8) (h : L.map tl = words l) : tot L ≤ l.length + 1 := by
  rw [tot_tw, h]
  have := wgo_tw l []
  simpa [words] using this
theorem len_tot (L : List ByteArray) : L.length ≤ tot L := by
  induction L with
  | nil => exact Nat.le_refl _
  | cons x r ih => simp only [tot, List.length_cons]; omega

set_option maxHeartbeats 400000 in
theorem joins_big (L : List ByteArray) (v : Value) (w : World) (h : Env w) (hl : L.length ≤ 140737488355328) (hx : ∀ j, (L.getD j ⟨#[]⟩).size ≤ 140737488355328) (hv : Strz w v L) (hb : 20000 < bg 0 L) :
    Calls Tryd.prog 4 #[v] w fun e w' => e = .returned (.bool true) ∧ Below w.heap.size w w' := by
  have kB : ∀ w', Below w.heap.size w w' → Calls Tryd.prog 16 #[v] w' fun e w'' => e = .returned (.bool true) ∧ w'' = w' := fun w' hw => by
    have := big_any L v w' hl hx (hv.below hw)
    rwa [decide_eq_true hb] at this
  clear hv
  go_enter Tryd.func4, Tryd.ntmps4
  go_wp2_with fail
  refine (alive_any _ h).mono ?_
  rintro e w1 ⟨rfl, hb1⟩
  go_wp2_with fail
  refine (kB _ hb1).mono ?_
  rintro e w1' ⟨rfl, rfl⟩
  go_wp2
  go_ret
  exact ⟨rfl, hb1⟩

set_option maxHeartbeats 1000000 in
theorem joins_main (L : List ByteArray) (v : Value) (w : World) (h : Env w) (hl : L.length ≤ 140737488355328) (hx : ∀ j, (L.getD j ⟨#[]⟩).size ≤ 140737488355328) (hv : Strz w v L) (hb : bg 0 L ≤ 20000) :
    Calls Tryd.prog 4 #[v] w fun e w' => e = .returned (.bool true) ∧ Below w.heap.size w w' := by
  have kB : ∀ w', Below w.heap.size w w' → Calls Tryd.prog 16 #[v] w' fun e w'' => e = .returned (.bool false) ∧ w'' = w' := fun w' hw => by
    have := big_any L v w' hl hx (hv.below hw)
    rwa [decide_eq_false (by omega)] at this
  have ht : tot L ≤ 20000 := by have := bg_tot L 0 hb; omega
  have hL := len_tot L
  have hjl := jr_len L true
  have hJ : (⟨(jn L).toArray⟩ : ByteArray).size ≤ 20000 := by
    show (jn L).toArray.size ≤ _
    rw [List.size_toArray]
    exact Nat.le_trans hjl ht
  have hJd : (⟨(jn L).toArray⟩ : ByteArray).data.toList = jn L := rfl
  have HD := hide' hJd
  have kJ : ∀ w' v', Strz w' v' L → Calls Tryd.prog 18 #[v'] w' fun e w'' => e = .returned (.string ⟨(jn L).toArray⟩) ∧ Below w'.heap.size w' w'' := fun w' v' hs => join_any L v' w' (by omega) (by omega) hs
  have kR : ∀ w' v', Strz w' v' L → Calls Tryd.prog 20 #[v'] w' fun e w'' => e = .returned (.string ⟨(jn L).toArray⟩) ∧ Below w'.heap.size w' w'' := fun w' v' hs => rjoin_any L v' w' (by omega) (by omega) hs
  clear hJd hjl hb hx hl
  generalize (⟨(jn L).toArray⟩ : ByteArray) = J at hJ HD kJ kR
  go_enter Tryd.func4, Tryd.ntmps4
  go_wp2_with fail
  refine (alive_any _ h).mono ?_
  rintro e w1 ⟨rfl, hb1⟩
  go_wp2_with fail
  refine (kB _ hb1).mono ?_
  rintro e w1' ⟨rfl, rfl⟩
  clear kB
  have hv1 := hv.below hb1
  go_wp2_with fail
  refine (lent_any L v _ (by omega) hv1).mono ?_
  rintro e w2 ⟨full, rfl, hf2, hb2⟩
  have hB2 : Below w.heap.size w w2 := hb1.trans (hb2.mono hb1.size)
  clear hv1 hb1 hb2
  go_wp2_with fail
  refine (kJ _ _ (.inr hf2.strs)).mono ?_
  rintro e w3 ⟨rfl, hb3⟩
  have hf3 := hf2.below hb3
  have hB3 : Below w.heap.size w w3 := hB2.trans (hb3.mono hB2.size)
  clear hf2 hb3 hB2 kJ
  have hv3 := hv.below hB3
  go_wp2_with fail
  refine (stays_any L _ full v _ (by omega) hf3 hv3).mono ?_
  rintro e w4 ⟨rfl, hb4⟩
  have hB4 : Below w.heap.size w w4 := hB3.trans (hb4.mono hB3.size)
  clear hf3 hv3 hb4 hB3
  go_wp2_with fail
  refine (split_strs J (by omega) _).mono ?_
  rintro e w5 ⟨v5, L5, rfl, hL5, hrow5, hb5⟩
  have hB5 : Below w.heap.size w w5 := hB4.trans (hb5.mono hB4.size)
  have hS5 := Strs.of_row hrow5
  have ht5 := tot_words L5 _ hL5
  rw [← Lib.size_eq] at ht5
  have hl5 := len_tot L5
  have hg5 : ∀ y ∈ L5, good (tl y) := fun y hy => words_good _ _ (by rw [← hL5]; exact List.mem_map_of_mem hy)
  have hw5 := words_jn L5 hg5
  have hJ5 : (⟨(jn L5).toArray⟩ : ByteArray).size ≤ 1000000 := by
    show (jn L5).toArray.size ≤ _
    rw [List.size_toArray]
    exact Nat.le_trans (jr_len L5 true) (by omega)
  have kS : ∀ w', Calls Tryd.prog 10 #[.string ⟨(jn L5).toArray⟩] w' fun e W' => ∃ (v : Value), e = .returned v ∧ Strs W' v L5 ∧ Below w'.heap.size w' W' := fun w' => (split_strs ⟨(jn L5).toArray⟩ hJ5 w').mono fun e W' hh => by
    obtain ⟨v6, L6, he, hL6, hrow6, hb6⟩ := hh
    obtain rfl : L6 = L5 := map_tl_inj L6 L5 (hL6.trans hw5)
    exact ⟨v6, he, Strs.of_row hrow6, hb6⟩
  have kJ5 : ∀ w', Strz w' v5 L5 → Calls Tryd.prog 18 #[v5] w' fun e w'' => e = .returned (.string ⟨(jn L5).toArray⟩) ∧ Below w'.heap.size w' w'' := fun w' hs => join_any L5 v5 w' (by omega) (by omega) hs
  clear hL5 hrow5 hb5 hB4 hg5 hw5 hJ5 HD
  generalize (⟨(jn L5).toArray⟩ : ByteArray) = J5 at kS kJ5
  have hv5 := hv.below hB5
  go_wp2_with fail
  refine (kR _ _ hv5).mono ?_
  rintro e w6 ⟨rfl, hb6⟩
  have hB6 : Below w.heap.size w w6 := hB5.trans (hb6.mono hB5.size)
  have hS6 := hS5.below hb6
  clear hS5 hb6 hB5 hv5 kR
  go_wp2_with fail
  refine (kJ5 _ (.inr hS6)).mono ?_
  rintro e w7 ⟨rfl, hb7⟩
  have hB7 : Below w.heap.size w w7 := hB6.trans (hb7.mono hB6.size)
  have hS7 := hS6.below hb7
  clear hS6 hb7 hB6 kJ5
  go_wp2_with fail
  refine (kS _).mono ?_
  rintro e w8 ⟨v8, rfl, hS8', hb8⟩
  have hB8 : Below w.heap.size w w8 := hB7.trans (hb8.mono hB7.size)
  have hS8 := hS7.below hb8
  clear hS7 hb8 hB7 kS
  go_wp2_with fail
  refine (same_any L5 v5 v8 _ hS8 hS8').mono ?_
  rintro e w9 ⟨rfl, hb9⟩
  have hB9 : Below w.heap.size w w9 := hB8.trans (hb9.mono hB8.size)
  clear hS8 hS8' hb9 hB8
  go_wp2
  go_ret
  exact ⟨rfl, hB9⟩

theorem joins_any (L : List ByteArray) (v : Value) (w : World) (h : Env w) (hl : L.length ≤ 140737488355328) (hx : ∀ j, (L.getD j ⟨#[]⟩).size ≤ 140737488355328) (hv : Strz w v L) :
    Calls Tryd.prog 4 #[v] w fun e w' => e = .returned (.bool true) ∧ Below w.heap.size w w' := by
  by_cases hb : bg 0 L ≤ 20000
  · exact joins_main L v w h hl hx hv hb
  · exact joins_big L v w h hl hx hv (by omega)
end Go.Proofs.YtjfbnjajekedlaaDoor
