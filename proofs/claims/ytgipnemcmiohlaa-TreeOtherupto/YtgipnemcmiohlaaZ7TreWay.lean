/- What the laws of package tree want of TreWay. -/
import Derived.Test.YtgipnemcmiohlaaZ7TreNum
namespace Go.Proofs.Ytgipnemcmiohlaa
open Go.RowKit
set_option linter.unusedSimpArgs false
set_option linter.unusedVariables false
theorem SetX_ok {x y : Nd} {l : List Stp} : (SetX x l y).2 = 0 ↔ okSet x l y := by
  rw [ok_iff]
  unfold SetX
  split
  · rename_i h; simp [h]
  · rename_i h
    have h' : l.getLast? = some (stp y.1) := Classical.not_not.1 h
    cases hp : getX x l.dropLast with
    | none => simp
    | some p =>
      by_cases hk : p.1.kind = 0 <;> simp [hk, h']
end Go.Proofs.Ytgipnemcmiohlaa

