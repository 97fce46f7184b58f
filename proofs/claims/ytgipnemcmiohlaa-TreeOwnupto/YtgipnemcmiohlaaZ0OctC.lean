/- What the laws of package tree want of OctC. -/
import Derived.Test.YtgipnemcmiohlaaZ0OctNum
namespace Go.Proofs.Ytgipnemcmiohlaa
open Go.RowKit
/-- It is a number of eight bytes. -/
def Below64 (n : Nat) : Prop := n < 18446744073709551616
instance (n : Nat) : Decidable (Below64 n) := inferInstanceAs (Decidable (n < 18446744073709551616))
end Go.Proofs.Ytgipnemcmiohlaa

