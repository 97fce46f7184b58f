/- What the laws of package tree want of TreRefB. -/
import Derived.Test.YtgipnemcmiohlaaZ8TreWay
namespace Go.Proofs.Ytgipnemcmiohlaa
open Go.RowKit
set_option linter.unusedSimpArgs false
set_option linter.unusedVariables false
theorem rsizet_any (x : Nd) (cs : List Value) (w : World) (hx : LieN w cs x) (hf : Few9 x) : Calls Try.prog 14 #[.agg cs.toArray] w (Ans9 (.int .i64 (sizeX x : Int)) w) := by
  obtain ⟨A, c, rfl, hk⟩ := hx.shape
  exact rsizef_any x.2 x.1 A c w hk hf
end Go.Proofs.Ytgipnemcmiohlaa

