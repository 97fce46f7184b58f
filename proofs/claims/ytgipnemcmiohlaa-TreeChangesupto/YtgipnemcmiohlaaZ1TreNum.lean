/- What the laws of package tree want of TreNum. -/
import Derived.Test.YtgipnemcmiohlaaZ0Law09J
namespace Go.Proofs.Ytgipnemcmiohlaa
open Go.RowKit
set_option linter.unusedSimpArgs false
set_option linter.unusedVariables false
theorem rep_size {s : Stp} {y z : Nd} : ∀ {f : NdF}, gtF s f = some z → (repF s y f).size + sizeX z = f.size + sizeX y := by
  intro f
  induction f with
  | nil => intro h; cases h
  | cons a k r _ ih =>
    intro h
    simp only [gtF] at h
    simp only [repF]
    split at h
    · rename_i e; injection h with h; subst h; rw [if_pos e]; simp only [Fr.size, sizeX]; omega
    · rename_i e; rw [if_neg e]; have := ih h; simp only [Fr.size]; omega
theorem ins_size {y : Nd} : ∀ {f : NdF}, (insF y f).size = f.size + sizeX y := by
  intro f
  induction f with
  | nil => simp [insF, oneF_size, Fr.size]
  | cons b k r _ ih =>
    simp only [insF]
    split
    · simp only [Fr.size, ih]; omega
    · simp only [Fr.size, sizeX]; omega
end Go.Proofs.Ytgipnemcmiohlaa

