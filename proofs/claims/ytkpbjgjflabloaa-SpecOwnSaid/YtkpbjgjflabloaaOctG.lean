/-
  A slice of bytes as a string. No condition but those of each theorem.
-/
import Derived.Test.YtkpbjgjflabloaaOctF
import Derived.Laws.IdiomStrings
import Derived.Laws.BytesArg
namespace Go.Proofs.Ytkpbjgjflabloaa
open Go.RowKit

end Go.Proofs.Ytkpbjgjflabloaa
