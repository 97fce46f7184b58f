/- What the laws of package tree want of TreNum. -/
import Derived.Test.YtgipnemcmiohlaaZ0Law09J
import Derived.Test.YtgipnemcmiohlaaZ1Law09C
import Derived.Test.YtgipnemcmiohlaaZ4TreNum
namespace Go.Proofs.Ytgipnemcmiohlaa
open Go.RowKit
set_option linter.unusedSimpArgs false
set_option linter.unusedVariables false
theorem getF_stp {s : Stp} {f : NdF} {y : Nd} (h : gtF s f = some y) : stp y.1 = s := by
  obtain ⟨i, h1, h2⟩ := getF_find h
  obtain ⟨z, h3, h4, _⟩ := find_stp h1
  rw [h2] at h3
  injection h3 with h3
  rw [h3]; exact h4
theorem getF_rep {s : Stp} {y z : Nd} (hy : stp y.1 = s) : ∀ {f : NdF}, gtF s f = some z → gtF s (repF s y f) = some y := by
  intro f
  induction f with
  | nil => intro h; cases h
  | cons a k r _ ih =>
    intro h
    simp only [gtF] at h
    simp only [repF]
    split at h
    · rename_i e; rw [if_pos e]; simp [gtF, hy]
    · rename_i e; rw [if_neg e]; simp only [gtF]; rw [if_neg e]; exact ih h
end Go.Proofs.Ytgipnemcmiohlaa

