/- What the laws of package tree want of OctE. -/
import Derived.Test.YtgipnemcmiohlaaZ0OctC
namespace Go.Proofs.Ytgipnemcmiohlaa
open Go.RowKit
/-- What Num answers, what is left, and the error. -/
def nm (l : List UInt8) (e n : Int) : Nat × List UInt8 × Int :=
  if e = 0 ∧ ¬ (1 ≤ n ∧ n ≤ 8) then (0, l, 1) else (valB (nx l e n).1, (nx l e n).2.1, (nx l e n).2.2)
end Go.Proofs.Ytgipnemcmiohlaa

