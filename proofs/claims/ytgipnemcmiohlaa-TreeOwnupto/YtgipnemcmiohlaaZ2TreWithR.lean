/- What the laws of package tree want of TreWithR. -/
import Derived.Test.YtgipnemcmiohlaaZ2Forest
namespace Go.Proofs.Ytgipnemcmiohlaa
open Go.RowKit
set_option linter.unusedSimpArgs false
set_option linter.unusedVariables false
/-- Where the parts of a tree may lie. -/
abbrev Zone (d B T : Nat) : Nat → Prop := fun g => g < d ∨ (B ≤ g ∧ g < T)
end Go.Proofs.Ytgipnemcmiohlaa

