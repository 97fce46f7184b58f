/-
  What package octet's Value, Big and Least answer. No condition but those of each theorem.
-/
import Derived.Test.YtkpbjgjflabloaaOctB
import Derived.Test.YtkpbjgjflabloaaOctNum
namespace Go.Proofs.Ytkpbjgjflabloaa
open Go.RowKit

/-- It is a number of eight bytes. -/
def Below64 (n : Nat) : Prop := n < 18446744073709551616
instance (n : Nat) : Decidable (Below64 n) := inferInstanceAs (Decidable (n < 18446744073709551616))

end Go.Proofs.Ytkpbjgjflabloaa
