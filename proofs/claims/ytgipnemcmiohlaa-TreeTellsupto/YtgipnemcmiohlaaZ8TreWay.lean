/- What the laws of package tree want of TreWay. -/
import Derived.Test.YtgipnemcmiohlaaZ0Law09J
import Derived.Test.YtgipnemcmiohlaaZ2TreWithR
import Derived.Test.YtgipnemcmiohlaaZ3Law09A
import Derived.Test.YtgipnemcmiohlaaZ5Law09A
import Derived.Test.YtgipnemcmiohlaaZ6Law09A
namespace Go.Proofs.Ytgipnemcmiohlaa
open Go.RowKit
set_option linter.unusedSimpArgs false
set_option linter.unusedVariables false
theorem with_size {f l : NdF} {a : Nat} : (withF f a 0 l).size = f.size + l.size := by
  have h := congrArg Fr.size (Fr.take_app_drop a f)
  rw [Fr.size_app] at h
  simp only [withF, Fr.size_app, Nat.add_zero]
  omega
theorem insB_size {y : Nd} {g : NdF} : (insB y g).size = g.size + sizeX y := by
  unfold insB; rw [with_size, oneF_size]
theorem sortA_size : ∀ (r g : NdF), (sortA g r).size = g.size + r.size := by
  intro r
  induction r with
  | nil => intro g; simp [sortA, Fr.size]
  | cons a k r ihk ihr =>
    intro g
    simp only [sortA, Fr.size]
    rw [ihr, insB_size, sizeX, ihk]
    simp only [Fr.size]
    omega
end Go.Proofs.Ytgipnemcmiohlaa

