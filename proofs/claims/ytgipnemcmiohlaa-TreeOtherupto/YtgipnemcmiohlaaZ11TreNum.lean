/- What the laws of package tree want of TreNum. -/
import Derived.Test.YtgipnemcmiohlaaZ0Law09J
import Derived.Test.YtgipnemcmiohlaaZ1Law09C
import Derived.Test.YtgipnemcmiohlaaZ4TreNum
import Derived.Test.YtgipnemcmiohlaaZ7TreWay
namespace Go.Proofs.Ytgipnemcmiohlaa
open Go.RowKit
set_option linter.unusedSimpArgs false
set_option linter.unusedVariables false
theorem getF_rep_ne {s t : Stp} {y : Nd} (hy : stp y.1 = s) (hn : t ≠ s) : ∀ {f : NdF}, gtF t (repF s y f) = gtF t f := by
  intro f
  induction f with
  | nil => rfl
  | cons a k r _ ih =>
    simp only [repF]
    split
    · rename_i e; simp only [gtF]; rw [if_neg (by rw [hy]; exact fun h => hn h.symm), if_neg (by rw [e]; exact fun h => hn h.symm)]
    · rename_i e; simp only [gtF]; rw [ih]
theorem getF_del_ne {s t : Stp} (hn : t ≠ s) : ∀ {f : NdF}, gtF t (delF s f) = gtF t f := by
  intro f
  induction f with
  | nil => rfl
  | cons a k r _ ih =>
    simp only [delF]
    split
    · rename_i e; simp only [gtF]; rw [if_neg (by rw [e]; exact fun h => hn h.symm)]
    · rename_i e; simp only [gtF]; rw [ih]
theorem getF_ins_ne {t : Stp} {y : Nd} (hn : t ≠ stp y.1) : ∀ {f : NdF}, gtF t (insF y f) = gtF t f := by
  intro f
  induction f with
  | nil => simp only [insF, oneF, gtF]; rw [if_neg (fun h => hn h.symm)]
  | cons b k r _ ih =>
    simp only [insF]
    split
    · simp only [gtF]; rw [ih]
    · simp only [gtF]; rw [if_neg (fun h => hn h.symm)]
end Go.Proofs.Ytgipnemcmiohlaa

