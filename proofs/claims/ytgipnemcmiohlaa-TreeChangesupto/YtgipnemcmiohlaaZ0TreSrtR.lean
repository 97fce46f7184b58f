/- What the laws of package tree want of TreSrtR. -/
import Derived.Test.YtgipnemcmiohlaaZ0TreSetR
namespace Go.Proofs.Ytgipnemcmiohlaa
open Go.RowKit
set_option linter.unusedSimpArgs false
set_option linter.unusedVariables false
theorem sortA_app (a : NdD) (k : NdF) : ∀ (r g : NdF), sortA g (r.app (.cons a k .nil)) = insB (a, sortA .nil k) (sortA g r) := by
  intro r
  induction r with
  | nil => intro g; rfl
  | cons b q r _ ih => intro g; simp only [Fr.app, sortA]; rw [ih]
end Go.Proofs.Ytgipnemcmiohlaa

