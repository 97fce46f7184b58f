/- What the laws of package tree want of TreWay. -/
import Derived.Test.YtgipnemcmiohlaaZ1TreNum
namespace Go.Proofs.Ytgipnemcmiohlaa
open Go.RowKit
set_option linter.unusedSimpArgs false
set_option linter.unusedVariables false
/-- A node may be set there. -/
def okSet : Nd → List Stp → Nd → Prop
  | _, [], _ => False
  | x, s :: l, y => match l with
    | [] => s = stp y.1 ∧ x.1.kind = 0
    | _ :: _ => ∃ z, gtF s x.2 = some z ∧ okSet z l y
theorem ok_one {x y : Nd} {s : Stp} : okSet x [s] y ↔ s = stp y.1 ∧ x.1.kind = 0 := Iff.rfl
theorem ok_more {x y : Nd} {s t : Stp} {l : List Stp} : okSet x (s :: t :: l) y ↔ ∃ z, gtF s x.2 = some z ∧ okSet z (t :: l) y := by
  rw [okSet.eq_def]
theorem ok_iff {y : Nd} : ∀ (l : List Stp) (x : Nd), okSet x l y ↔ l.getLast? = some (stp y.1) ∧ ∃ p, getX x l.dropLast = some p ∧ p.1.kind = 0 := by
  intro l
  induction l with
  | nil => intro x; simp [okSet]
  | cons s l ih =>
    intro x
    cases l with
    | nil =>
      rw [ok_one]
      simp [getX]
    | cons t l =>
      rw [ok_more]
      have e : (s :: t :: l).dropLast = s :: (t :: l).dropLast := rfl
      have e2 : (s :: t :: l).getLast? = (t :: l).getLast? := by simp [List.getLast?_cons_cons]
      rw [e, e2]
      simp only [getX]
      constructor
      · intro ⟨z, h1, h2⟩
        obtain ⟨h3, p, h4, h5⟩ := (ih z).1 h2
        exact ⟨h3, p, by rw [h1]; exact h4, h5⟩
      · intro ⟨h3, p, h4, h5⟩
        cases hz : gtF s x.2 with
        | none => rw [hz] at h4; cases h4
        | some z => rw [hz] at h4; exact ⟨z, rfl, (ih z).2 ⟨h3, p, h4, h5⟩⟩
theorem SetX_is {x y : Nd} {l : List Stp} (h : okSet x l y) : SetX x l y = (setX x l y, 0) := by
  obtain ⟨h1, p, h2, h3⟩ := (ok_iff l x).1 h
  unfold SetX
  rw [if_neg (by simp [h1]), h2]
  simp [h3]
theorem ok_ne {x y : Nd} {l : List Stp} (h : okSet x l y) : l ≠ [] := by
  intro e; subst e; exact h
theorem cut_size : ∀ (l : List Stp) (x z : Nd), l ≠ [] → getX x l = some z → sizeX (cutX x l) + sizeX z = sizeX x := by
  intro l
  induction l with
  | nil => intro x z h; exact absurd rfl h
  | cons s l ih =>
    intro x z _ h
    rw [getX.eq_def] at h
    simp only at h
    cases h1 : gtF s x.2 with
    | none => rw [h1] at h; cases h
    | some u =>
      rw [h1] at h
      cases l with
      | nil =>
        injection h with h
        subst h
        rw [cutX_one]
        have := del_size h1
        simp only [sizeX] at this ⊢
        omega
      | cons t l =>
        rw [cut_more, h1]
        have h2 := ih u z (by simp) h
        have h3 := rep_size (y := cutX u (t :: l)) h1
        simp only [sizeX] at h2 h3 ⊢
        omega
theorem set_size {y : Nd} : ∀ (l : List Stp) (x : Nd), okSet x l y → sizeX (setX x l y) ≤ sizeX x + sizeX y := by
  intro l
  induction l with
  | nil => intro x h; exact absurd rfl (ok_ne h)
  | cons s l ih =>
    intro x h
    cases l with
    | nil =>
      rw [set_one]
      cases hz : gtF s x.2 with
      | none => have := ins_size (y := y) (f := x.2); simp only [sizeX] at this ⊢; omega
      | some z => have := rep_size (y := y) hz; simp only [sizeX] at this ⊢; omega
    | cons t l =>
      obtain ⟨z, h1, h2⟩ := ok_more.1 h
      rw [set_more, h1]
      have h3 := ih z h2
      have h4 := rep_size (y := setX z (t :: l) y) h1
      simp only [sizeX] at h3 h4 ⊢
      omega
end Go.Proofs.Ytgipnemcmiohlaa

