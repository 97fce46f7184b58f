/- What the laws of package tree want of TreNum. -/
import Derived.Test.YtgipnemcmiohlaaZ0Law09J
import Derived.Test.YtgipnemcmiohlaaZ1Law09C
import Derived.Test.YtgipnemcmiohlaaZ3Law09A
import Derived.Test.YtgipnemcmiohlaaZ4TreNum
import Derived.Test.YtgipnemcmiohlaaZ5Law09A
import Derived.Test.YtgipnemcmiohlaaZ7TreWay
namespace Go.Proofs.Ytgipnemcmiohlaa
open Go.RowKit
set_option linter.unusedSimpArgs false
set_option linter.unusedVariables false
theorem lessS_ne {s t : Stp} (h : lessS s t = true) : s ≠ t := fun e => by subst e; rw [lessS_irrefl] at h; cases h
theorem right_gt : ∀ {f : NdF} {a : NdD}, rgtF f = true → hdLess a f = true → allGt (stp a) f := by
  intro f
  induction f with
  | nil => intro a _ _; trivial
  | cons b k r _ ih =>
    intro a h1 h2
    rw [rightF_cons] at h1
    simp only [Bool.and_eq_true] at h1
    exact ⟨h2, (ih h1.2 h1.1.2).mono h2⟩
theorem gt_hd {a : NdD} {f : NdF} (h : allGt (stp a) f) : hdLess a f = true := by
  cases f with
  | nil => rfl
  | cons b k r => exact h.1
theorem right_cons_iff {a : NdD} {k r : NdF} : rgtF (.cons a k r) = true ↔ rgtX (a, k) = true ∧ allGt (stp a) r ∧ rgtF r = true := by
  rw [rightF_cons]
  simp only [Bool.and_eq_true]
  exact ⟨fun ⟨⟨h1, h2⟩, h3⟩ => ⟨h1, right_gt h3 h2, h3⟩, fun ⟨h1, h2, h3⟩ => ⟨⟨h1, gt_hd h2⟩, h3⟩⟩
theorem getF_ins {y : Nd} : ∀ {f : NdF}, gtF (stp y.1) f = none → gtF (stp y.1) (insF y f) = some y := by
  intro f
  induction f with
  | nil => intro _; simp [insF, oneF, gtF]
  | cons b k r _ ih =>
    intro h
    simp only [gtF] at h
    split at h
    · cases h
    · rename_i e
      simp only [insF]
      split
      · simp only [gtF]; rw [if_neg e]; exact ih h
      · simp [gtF]
theorem del_rep {s : Stp} {y z : Nd} (hy : stp y.1 = s) : ∀ {f : NdF}, gtF s f = some z → delF s (repF s y f) = delF s f := by
  intro f
  induction f with
  | nil => intro h; cases h
  | cons a k r _ ih =>
    intro h
    simp only [gtF] at h
    split at h
    · rename_i e; simp [repF, delF, e, hy]
    · rename_i e; simp only [repF, delF]; rw [if_neg e]; simp only [delF]; rw [if_neg e, if_neg e, ih h]
theorem rep_rep {s : Stp} {y z : Nd} (hy : stp y.1 = s) : ∀ {f : NdF}, repF s z (repF s y f) = repF s z f := by
  intro f
  induction f with
  | nil => rfl
  | cons a k r _ ih =>
    simp only [repF]
    split
    · simp [repF, hy]
    · rename_i e; simp only [repF]; rw [if_neg e, ih]
theorem rep_same {s : Stp} {z : Nd} : ∀ {f : NdF}, gtF s f = some z → repF s z f = f := by
  intro f
  induction f with
  | nil => intro h; cases h
  | cons a k r _ ih =>
    intro h
    simp only [gtF] at h
    simp only [repF]
    split at h
    · rename_i e; injection h with h; subst h; rw [if_pos e]
    · rename_i e; rw [if_neg e, ih h]
theorem del_ins {y : Nd} : ∀ {f : NdF}, gtF (stp y.1) f = none → delF (stp y.1) (insF y f) = f := by
  intro f
  induction f with
  | nil => intro _; simp [insF, oneF, delF]
  | cons b k r _ ih =>
    intro h
    simp only [gtF] at h
    split at h
    · cases h
    · rename_i e
      simp only [insF]
      split
      · simp only [delF]; rw [if_neg e, ih h]
      · simp [delF]
theorem gt_none {s : Stp} : ∀ {f : NdF}, allGt s f → gtF s f = none := by
  intro f
  induction f with
  | nil => intro _; rfl
  | cons a k r _ ih => intro ⟨h1, h2⟩; simp only [gtF]; rw [if_neg (fun e => lessS_ne h1 e.symm)]; exact ih h2
theorem gt_del {s t : Stp} : ∀ {f : NdF}, allGt t f → allGt t (delF s f) := by
  intro f
  induction f with
  | nil => intro _; trivial
  | cons a k r _ ih =>
    intro ⟨h1, h2⟩
    simp only [delF]
    split
    · exact h2
    · exact ⟨h1, ih h2⟩
theorem gt_rep {s t : Stp} {y : Nd} (hy : stp y.1 = s) : ∀ {f : NdF}, allGt t f → allGt t (repF s y f) := by
  intro f
  induction f with
  | nil => intro _; trivial
  | cons a k r _ ih =>
    intro ⟨h1, h2⟩
    simp only [repF]
    split
    · rename_i e; exact ⟨by rw [hy, ← e]; exact h1, h2⟩
    · exact ⟨h1, ih h2⟩
theorem gt_ins {t : Stp} {y : Nd} (hy : lessS t (stp y.1) = true) : ∀ {f : NdF}, allGt t f → allGt t (insF y f) := by
  intro f
  induction f with
  | nil => intro _; exact ⟨hy, trivial⟩
  | cons a k r _ ih =>
    intro ⟨h1, h2⟩
    simp only [insF]
    split
    · exact ⟨h1, ih h2⟩
    · exact ⟨hy, h1, h2⟩
theorem right_get {s : Stp} {z : Nd} : ∀ {f : NdF}, rgtF f = true → gtF s f = some z → rgtX z = true := by
  intro f
  induction f with
  | nil => intro _ h; cases h
  | cons a k r _ ih =>
    intro h h2
    rw [right_cons_iff] at h
    simp only [gtF] at h2
    split at h2
    · injection h2 with h2; subst h2; exact h.1
    · exact ih h.2.2 h2
theorem right_rep {s : Stp} {y : Nd} (hy : stp y.1 = s) (hr : rgtX y = true) : ∀ {f : NdF}, rgtF f = true → rgtF (repF s y f) = true := by
  intro f
  induction f with
  | nil => intro h; exact h
  | cons a k r _ ih =>
    intro h
    rw [right_cons_iff] at h
    simp only [repF]
    split
    · rename_i e; exact right_cons_iff.2 ⟨hr, by rw [hy, ← e]; exact h.2.1, h.2.2⟩
    · exact right_cons_iff.2 ⟨h.1, gt_rep hy h.2.1, ih h.2.2⟩
theorem right_del {s : Stp} : ∀ {f : NdF}, rgtF f = true → rgtF (delF s f) = true := by
  intro f
  induction f with
  | nil => intro h; exact h
  | cons a k r _ ih =>
    intro h
    rw [right_cons_iff] at h
    simp only [delF]
    split
    · exact h.2.2
    · exact right_cons_iff.2 ⟨h.1, gt_del h.2.1, ih h.2.2⟩
theorem getF_del {s : Stp} : ∀ {f : NdF}, rgtF f = true → gtF s (delF s f) = none := by
  intro f
  induction f with
  | nil => intro _; rfl
  | cons a k r _ ih =>
    intro h
    rw [right_cons_iff] at h
    simp only [delF]
    split
    · rename_i e; rw [← e]; exact gt_none h.2.1
    · rename_i e; simp only [gtF]; rw [if_neg e]; exact ih h.2.2
theorem right_ins {y : Nd} (hr : rgtX y = true) : ∀ {f : NdF}, rgtF f = true → gtF (stp y.1) f = none → rgtF (insF y f) = true := by
  intro f
  induction f with
  | nil => intro _ _; exact right_cons_iff.2 ⟨hr, trivial, rfl⟩
  | cons b k r _ ih =>
    intro h h2
    have h0 := h
    rw [right_cons_iff] at h
    simp only [gtF] at h2
    split at h2
    · cases h2
    · rename_i e
      simp only [insF]
      split
      · rename_i e2; exact right_cons_iff.2 ⟨h.1, gt_ins e2 h.2.1, ih h.2.2 h2⟩
      · rename_i e2
        have e3 : lessS (stp y.1) (stp b) = true := (lessS_total (fun h => e h.symm)).resolve_right e2
        exact right_cons_iff.2 ⟨hr, ⟨e3, h.2.1.mono e3⟩, h0⟩
/-- Set again, as it was. -/
theorem ins_gt {y : Nd} {f : NdF} (h : allGt (stp y.1) f) : insF y f = .cons y.1 y.2 f := by
  cases f with
  | nil => rfl
  | cons b k r =>
    simp only [insF]
    rw [if_neg]
    intro e
    have := lessS_asymm h.1
    rw [show lessS (stp b) (stp y.1) = true from e] at this
    cases this
theorem ins_del {s : Stp} {z : Nd} : ∀ {f : NdF}, rgtF f = true → gtF s f = some z → insF z (delF s f) = f := by
  intro f
  induction f with
  | nil => intro _ h; cases h
  | cons a k r _ ih =>
    intro h h2
    rw [right_cons_iff] at h
    have hs := getF_stp h2
    simp only [gtF] at h2
    simp only [delF]
    split at h2
    · rename_i e; injection h2 with h2; subst h2; rw [if_pos e]; exact ins_gt h.2.1
    · rename_i e
      rw [if_neg e]
      simp only [insF]
      have : lessX a z.1 = true := by
        have h3 : ∀ {g : NdF}, allGt (stp a) g → gtF s g = some z → lessS (stp a) (stp z.1) = true := by
          intro g
          induction g with
          | nil => intro _ h; cases h
          | cons b q t _ ih2 =>
            intro h4 h5
            simp only [gtF] at h5
            split at h5
            · injection h5 with h5; subst h5; exact h4.1
            · exact ih2 h4.2 h5
        exact h3 h.2.1 h2
      rw [if_pos this, ih h.2.2 h2]
end Go.Proofs.Ytgipnemcmiohlaa

