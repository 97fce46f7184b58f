/-
  What the four laws of layer 16 stand on, in one text. No condition.
-/
import Derived.Test.YthdhchhpjoghlaaAM0
import Derived.Test.YthdhchhpjoghlaaAM9
import Derived.Test.YthdhchhpjoghlaaAM10
import Derived.Test.YthdhchhpjoghlaaAM11
import Derived.Test.YthdhchhpjoghlaaAM12
import Derived.Test.YthdhchhpjoghlaaAM13
import Derived.Test.YthdhchhpjoghlaaAM27
namespace Go.Proofs.Ythdhchhpjoghlaa
open Go.RowKit

theorem difTop : True := by
  have h1 := @diffTells_walk
  have h2 := @diffRows_walk
  have h3 := @diffBack_walk
  have h4 := @diffParts_walk
  have h5 := @difC
  have h6 := @awake16
  have h7 := @open_node
  have h8 := @open_edits
  have h9 := @open_way
  have h10 := @FewN
  trivial

end Go.Proofs.Ythdhchhpjoghlaa
