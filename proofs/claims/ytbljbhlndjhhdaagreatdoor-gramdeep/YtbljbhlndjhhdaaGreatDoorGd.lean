/- What every parse keeps: plain. -/
import Derived.Test.YtbljbhlndjhhdaaGreatDoorGp
namespace Go.Proofs.YtbljbhlndjhhdaaGreatDoor
open Go.RowKit

theorem andT_ok {α β : Type} {r : PR α} {f : α → PS → PR β} {b : β} {s : PS} (h : andT r f = .ok b s) : ∃ a s1, r = .ok a s1 ∧ f a s1 = .ok b s := by
  cases r with
  | ok a s1 => exact ⟨a, s1, rfl, h⟩
  | bad => cases h
  | out => cases h
theorem want_dp {t : Bs} {s s' : PS} {u : Unit} (h : wantP t s = .ok u s') : s'.dp = s.dp := by
  unfold wantP at h
  split at h
  · cases h; rfl
  · cases h
theorem word_dp {s s' : PS} {u : Bs} (h : wordP s = .ok u s') : s'.dp = s.dp := by
  unfold wordP at h
  split at h
  · cases h; rfl
  · cases h
theorem name_dp {s s' : PS} {u : Bs} (h : nameP s = .ok u s') : s'.dp = s.dp := by
  unfold nameP at h
  split at h
  · cases h; rfl
  · cases h
theorem redir_dp {s s' : PS} {u : Bs × Bs} (h : redirP s = .ok u s') : s'.dp = s.dp := by
  unfold redirP at h
  obtain ⟨a, s1, h1, h2⟩ := andT_ok h
  cases h2
  exact (word_dp h1 :)
theorem redirs_dp : ∀ (n : Nat) {l r : List (Bs × Bs)} {s s' : PS}, redirsP n l s = .ok r s' → s'.dp = s.dp
  | 0, _, _, _, _, h => by cases h
  | n + 1, l, r, s, s', h => by
    rw [redirsP] at h
    split at h
    · obtain ⟨a, s1, h1, h2⟩ := andT_ok h
      exact (redirs_dp n h2).trans (redir_dp h1 :)
    · cases h; rfl
theorem simple_dp : ∀ (n : Nat) {b : Bool} {ag ws : List Bs} {rs : List (Bs × Bs)} {c : Cd} {s s' : PS}, simpleP n b ag ws rs s = .ok c s' → s'.dp = s.dp
  | 0, _, _, _, _, _, _, _, h => by cases h
  | n + 1, b, ag, ws, rs, c, s, s', h => by
    rw [simpleP] at h
    split at h
    · obtain ⟨a, s1, h1, h2⟩ := andT_ok h
      exact (simple_dp n h2).trans (redir_dp h1 :)
    · split at h
      · split at h
        · exact (simple_dp n h :)
        · exact (simple_dp n h :)
      · split at h
        · cases h; rfl
        · cases h
theorem words_dp : ∀ (n : Nat) {l r : List Bs} {s s' : PS}, wordsP n l s = .ok r s' → s'.dp = s.dp
  | 0, _, _, _, _, h => by cases h
  | n + 1, l, r, s, s', h => by
    rw [wordsP] at h
    split at h
    · exact (words_dp n h :)
    · cases h; rfl
theorem pats_dp : ∀ (n : Nat) {l r : List Bs} {s s' : PS}, patsP n l s = .ok r s' → s'.dp = s.dp
  | 0, _, _, _, _, h => by cases h
  | n + 1, l, r, s, s', h => by
    rw [patsP] at h
    split at h
    · obtain ⟨a, s1, h1, h2⟩ := andT_ok h
      exact (pats_dp n h2).trans (word_dp h1 :)
    · cases h; rfl
theorem sep_dp {s s' : PS} (h : sepP s = some s') : s'.dp = s.dp := by
  unfold sepP at h
  split at h
  · cases h; rfl
  · cases h
structure Dps (n : Nat) : Prop where
  andors : ∀ {s l s'}, andorsP n s = .ok l s' → s'.dp = s.dp
  andorsl : ∀ {k s l s'}, andorsL n k s = .ok l s' → s'.dp = s.dp
  andor : ∀ {s l s'}, andorP n s = .ok l s' → s'.dp = s.dp
  andorl : ∀ {k s l s'}, andorL n k s = .ok l s' → s'.dp = s.dp
  pipe : ∀ {s l s'}, pipeP n s = .ok l s' → s'.dp = s.dp
  pipel : ∀ {b k s l s'}, pipeL n b k s = .ok l s' → s'.dp = s.dp
  command : ∀ {s l s'}, commandP n s = .ok l s' → s'.dp = s.dp
  list : ∀ {s l s'}, listP n s = .ok l s' → s'.dp = s.dp
  lon : ∀ {s l s'}, lonP n s = .ok l s' → s'.dp = s.dp
  form : ∀ {f s l s'}, formP n f s = .ok l s' → s'.dp = s.dp
  choice : ∀ {s l s'}, choiceP n s = .ok l s' → s'.dp = s.dp
  while_ : ∀ {b s l s'}, whileP n b s = .ok l s' → s'.dp = s.dp
  do_ : ∀ {s l s'}, doP n s = .ok l s' → s'.dp = s.dp
  arms : ∀ {k s l s'}, armsP n k s = .ok l s' → s'.dp = s.dp
  arm : ∀ {s l s'}, armP n s = .ok l s' → s'.dp = s.dp
theorem dps : ∀ n, Dps n
  | 0 => by constructor <;> (intros; rename_i h; cases h)
  | n + 1 => by
    have ih := dps n
    constructor
    · intro s l s' h
      rw [andorsP] at h
      obtain ⟨a, s1, h1, h2⟩ := andT_ok h
      exact (ih.andorsl h2).trans (ih.andor h1 :)
    · intro k s l s' h
      rw [andorsL] at h
      split at h
      · cases h; rfl
      · rename_i s1 hs
        split at h
        · cases h; exact sep_dp hs
        · obtain ⟨a, s2, h1, h2⟩ := andT_ok h
          exact ((ih.andorsl h2).trans (ih.andor h1 :)).trans (sep_dp hs)
    · intro s l s' h
      rw [andorP] at h
      obtain ⟨a, s1, h1, h2⟩ := andT_ok h
      exact (ih.andorl h2).trans (ih.pipe h1 :)
    · intro k s l s' h
      rw [andorL] at h
      split at h
      · obtain ⟨a, s1, h1, h2⟩ := andT_ok h
        exact (ih.andorl h2).trans (ih.pipe h1 :)
      · split at h
        · obtain ⟨a, s1, h1, h2⟩ := andT_ok h
          exact (ih.andorl h2).trans (ih.pipe h1 :)
        · cases h; rfl
    · intro s l s' h
      rw [pipeP] at h
      obtain ⟨a, s1, h1, h2⟩ := andT_ok h
      refine (ih.pipel h2).trans ((ih.command h1).trans ?_)
      split <;> rfl
    · intro b k s l s' h
      rw [pipeL] at h
      split at h
      · obtain ⟨a, s1, h1, h2⟩ := andT_ok h
        exact (ih.pipel h2).trans (ih.command h1 :)
      · cases h; rfl
    · intro s l s' h
      rw [commandP] at h
      split at h
      · split at h
        · cases h
        · exact (simple_dp n h :)
      · obtain ⟨a, s1, h1, h2⟩ := andT_ok h
        obtain ⟨k, b, ag, ws, rs, ks, ar⟩ := a
        dsimp only at h2
        obtain ⟨a2, s2, h3, h4⟩ := andT_ok h2
        cases h4
        have e1 := redirs_dp n h3
        have e2 := ih.form h1
        simp only at e1 e2
        omega
    · intro s l s' h
      rw [listP] at h
      obtain ⟨a, s1, h1, h2⟩ := andT_ok h
      cases h2
      exact (ih.andors h1 :)
    · intro s l s' h
      rw [lonP] at h
      split at h
      · cases h; rfl
      · exact (ih.andors h :)
    · intro f s l s' h
      cases f with
      | sub =>
        rw [formP] at h
        obtain ⟨a, s1, h1, h2⟩ := andT_ok h
        obtain ⟨a2, s2, h3, h4⟩ := andT_ok h2
        cases h4
        exact (want_dp h3).trans (ih.list h1)
      | grp =>
        rw [formP] at h
        obtain ⟨a, s1, h1, h2⟩ := andT_ok h
        obtain ⟨a2, s2, h3, h4⟩ := andT_ok h2
        cases h4
        exact (want_dp h3).trans (ih.list h1)
      | cho => rw [formP] at h; exact ih.choice h
      | whl => rw [formP] at h; exact ih.while_ h
      | unt => rw [formP] at h; exact ih.while_ h
      | fr =>
        rw [formP] at h
        obtain ⟨a, s1, h1, h2⟩ := andT_ok h
        obtain ⟨a2, s2, h3, h4⟩ := andT_ok h2
        obtain ⟨a3, s3, h5, h6⟩ := andT_ok h4
        cases h6
        have e1 := name_dp h1
        have e2 : s2.dp = s1.dp := by
          split at h3
          · exact (words_dp n h3 :)
          · cases h3; rfl
        have e3 := ih.do_ h5
        rw [e3]
        split
        · rename_i s4 hs; rw [sep_dp hs, e2, e1]
        · rw [e2, e1]
      | cas =>
        rw [formP] at h
        obtain ⟨a, s1, h1, h2⟩ := andT_ok h
        obtain ⟨a2, s2, h3, h4⟩ := andT_ok h2
        obtain ⟨a3, s3, h5, h6⟩ := andT_ok h4
        cases h6
        exact (ih.arms h5).trans ((want_dp h3).trans (word_dp h1 :))
    · intro s l s' h
      rw [choiceP] at h
      obtain ⟨a, s1, h1, h2⟩ := andT_ok h
      obtain ⟨a2, s2, h3, h4⟩ := andT_ok h2
      obtain ⟨a3, s3, h5, h6⟩ := andT_ok h4
      have e : s3.dp = s.dp := (ih.list h5).trans ((want_dp h3).trans (ih.list h1))
      split at h6
      · obtain ⟨a4, s4, h7, h8⟩ := andT_ok h6
        cases h8
        exact (ih.choice h7).trans e
      · split at h6
        · obtain ⟨a4, s4, h7, h8⟩ := andT_ok h6
          obtain ⟨a5, s5, h9, h10⟩ := andT_ok h8
          cases h10
          exact (want_dp h9).trans ((ih.list h7).trans e)
        · obtain ⟨a4, s4, h7, h8⟩ := andT_ok h6
          cases h8
          exact (want_dp h7).trans e
    · intro b s l s' h
      rw [whileP] at h
      obtain ⟨a, s1, h1, h2⟩ := andT_ok h
      obtain ⟨a2, s2, h3, h4⟩ := andT_ok h2
      cases h4
      exact (ih.do_ h3).trans (ih.list h1)
    · intro s l s' h
      rw [doP] at h
      obtain ⟨a, s1, h1, h2⟩ := andT_ok h
      obtain ⟨a2, s2, h3, h4⟩ := andT_ok h2
      obtain ⟨a3, s3, h5, h6⟩ := andT_ok h4
      cases h6
      exact (want_dp h5).trans ((ih.list h3).trans (want_dp h1))
    · intro k s l s' h
      rw [armsP] at h
      split at h
      · cases h; rfl
      · obtain ⟨a, s1, h1, h2⟩ := andT_ok h
        exact (ih.arms h2).trans (ih.arm h1)
    · intro s l s' h
      rw [armP] at h
      obtain ⟨a, s1, h1, h2⟩ := andT_ok h
      obtain ⟨a2, s2, h3, h4⟩ := andT_ok h2
      obtain ⟨a3, s3, h5, h6⟩ := andT_ok h4
      obtain ⟨a4, s4, h7, h8⟩ := andT_ok h6
      have e : s4.dp = s.dp := by
        refine (ih.lon h7).trans ((want_dp h5).trans ((pats_dp n h3).trans ((word_dp h1).trans ?_)))
        split <;> rfl
      split at h8
      · cases h8; exact e
      · split at h8
        · cases h8; exact e
        · cases h8
/-- a compound has no redirections of its own yet -/
theorem form_bare {n : Nat} {f : Fm} {s s' : PS} {c : Cd} (h : formP n f s = .ok c s') : ∃ k b ag ws ks ar, c = .mk k b ag ws [] ks ar := by
  cases n with
  | zero => cases h
  | succ n =>
    cases f with
    | sub =>
      rw [formP] at h
      obtain ⟨a, s1, h1, h2⟩ := andT_ok h
      obtain ⟨a2, s2, h3, h4⟩ := andT_ok h2
      cases h4; exact ⟨_, _, _, _, _, _, rfl⟩
    | grp =>
      rw [formP] at h
      obtain ⟨a, s1, h1, h2⟩ := andT_ok h
      obtain ⟨a2, s2, h3, h4⟩ := andT_ok h2
      cases h4; exact ⟨_, _, _, _, _, _, rfl⟩
    | cho =>
      rw [formP] at h
      cases n with
      | zero => cases h
      | succ n =>
        rw [choiceP] at h
        obtain ⟨a, s1, h1, h2⟩ := andT_ok h
        obtain ⟨a2, s2, h3, h4⟩ := andT_ok h2
        obtain ⟨a3, s3, h5, h6⟩ := andT_ok h4
        split at h6
        · obtain ⟨a4, s4, h7, h8⟩ := andT_ok h6
          cases h8; exact ⟨_, _, _, _, _, _, rfl⟩
        · split at h6
          · obtain ⟨a4, s4, h7, h8⟩ := andT_ok h6
            obtain ⟨a5, s5, h9, h10⟩ := andT_ok h8
            cases h10; exact ⟨_, _, _, _, _, _, rfl⟩
          · obtain ⟨a4, s4, h7, h8⟩ := andT_ok h6
            cases h8; exact ⟨_, _, _, _, _, _, rfl⟩
    | whl =>
      rw [formP] at h
      cases n with
      | zero => cases h
      | succ n =>
        rw [whileP] at h
        obtain ⟨a, s1, h1, h2⟩ := andT_ok h
        obtain ⟨a2, s2, h3, h4⟩ := andT_ok h2
        cases h4; exact ⟨_, _, _, _, _, _, rfl⟩
    | unt =>
      rw [formP] at h
      cases n with
      | zero => cases h
      | succ n =>
        rw [whileP] at h
        obtain ⟨a, s1, h1, h2⟩ := andT_ok h
        obtain ⟨a2, s2, h3, h4⟩ := andT_ok h2
        cases h4; exact ⟨_, _, _, _, _, _, rfl⟩
    | fr =>
      rw [formP] at h
      obtain ⟨a, s1, h1, h2⟩ := andT_ok h
      obtain ⟨a2, s2, h3, h4⟩ := andT_ok h2
      obtain ⟨a3, s3, h5, h6⟩ := andT_ok h4
      cases h6; exact ⟨_, _, _, _, _, _, rfl⟩
    | cas =>
      rw [formP] at h
      obtain ⟨a, s1, h1, h2⟩ := andT_ok h
      obtain ⟨a2, s2, h3, h4⟩ := andT_ok h2
      obtain ⟨a3, s3, h5, h6⟩ := andT_ok h4
      cases h6; exact ⟨_, _, _, _, _, _, rfl⟩
end Go.Proofs.YtbljbhlndjhhdaaGreatDoor
