/- What the laws of package tree want of TreWay. -/
import Derived.Test.YtgipnemcmiohlaaZ11TreNum
namespace Go.Proofs.Ytgipnemcmiohlaa
open Go.RowKit
set_option linter.unusedSimpArgs false
set_option linter.unusedVariables false
theorem parts_iff : ∀ (a b : List Stp), parts a b ↔ ∃ (i : Nat) (s t : Stp), a[i]? = some s ∧ b[i]? = some t ∧ s ≠ t := by
  intro a
  induction a with
  | nil => intro b; simp [parts]
  | cons s a ih =>
    intro b
    cases b with
    | nil => simp [parts]
    | cons t b =>
      simp only [parts]
      rw [ih b]
      constructor
      · rintro (h | ⟨i, u, v, h1, h2, h3⟩)
        · exact ⟨0, s, t, rfl, rfl, h⟩
        · exact ⟨i + 1, u, v, by simpa using h1, by simpa using h2, h3⟩
      · rintro ⟨i, u, v, h1, h2, h3⟩
        cases i with
        | zero =>
          simp at h1 h2
          subst h1 h2
          exact .inl h3
        | succ i => exact .inr ⟨i, u, v, by simpa using h1, by simpa using h2, h3⟩
theorem set_other {y : Nd} : ∀ (a b : List Stp) (x : Nd), okSet x a y → parts a b → getX (setX x a y) b = getX x b := by
  intro a
  induction a with
  | nil => intro b x h; exact absurd rfl (ok_ne h)
  | cons s a ih =>
    intro b x h hp
    cases b with
    | nil => exact hp.elim
    | cons u b =>
      cases a with
      | nil =>
        obtain ⟨rfl, hk⟩ := ok_one.1 h
        have hn : u ≠ stp y.1 := by
          rcases hp with h | h
          · exact fun e => h e.symm
          · exact h.elim
        rw [set_one]
        cases hz : gtF (stp y.1) x.2 with
        | none => simp only [getX]; rw [getF_ins_ne hn]
        | some z => simp only [getX]; rw [getF_rep_ne rfl hn]
      | cons t a =>
        obtain ⟨z, h1, h2⟩ := ok_more.1 h
        have hs : stp (setX z (t :: a) y).1 = s := by rw [set_fst]; exact getF_stp h1
        rw [set_more, h1]
        by_cases e : u = s
        · subst e
          rcases hp with h3 | h3
          · exact absurd rfl h3
          · simp only [getX]
            rw [getF_rep hs h1, h1]
            exact ih b z h2 h3
        · simp only [getX]
          rw [getF_rep_ne hs e]
theorem cut_other : ∀ (a b : List Stp) (x z : Nd), a ≠ [] → getX x a = some z → parts a b → getX (cutX x a) b = getX x b := by
  intro a
  induction a with
  | nil => intro b x z h; exact absurd rfl h
  | cons s a ih =>
    intro b x z _ h hp
    rw [getX.eq_def] at h
    simp only at h
    cases b with
    | nil => exact hp.elim
    | cons u b =>
      cases h1 : gtF s x.2 with
      | none => rw [h1] at h; cases h
      | some v =>
        rw [h1] at h
        cases a with
        | nil =>
          have hn : u ≠ s := by
            rcases hp with h | h
            · exact fun e => h e.symm
            · exact h.elim
          rw [cutX_one]
          simp only [getX]
          rw [getF_del_ne hn]
        | cons t a =>
          have hs : stp (cutX v (t :: a)).1 = s := by rw [cut_fst]; exact getF_stp h1
          rw [cut_more, h1]
          by_cases e : u = s
          · subst e
            rcases hp with h3 | h3
            · exact absurd rfl h3
            · simp only [getX]
              rw [getF_rep hs h1, h1]
              exact ih b v z (by simp) h h3
          · simp only [getX]
            rw [getF_rep_ne hs e]
end Go.Proofs.Ytgipnemcmiohlaa

