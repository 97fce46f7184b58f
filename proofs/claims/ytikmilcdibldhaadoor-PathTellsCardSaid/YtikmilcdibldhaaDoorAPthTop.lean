/-
  What the four laws of layer 15 stand on, in one text. No condition.
-/
import Derived.Test.YtikmilcdibldhaaDoorAM0
import Derived.Test.YtikmilcdibldhaaDoorAM13
import Derived.Test.YtikmilcdibldhaaDoorAM14
import Derived.Test.YtikmilcdibldhaaDoorAM15
import Derived.Test.YtikmilcdibldhaaDoorAM16
import Derived.Test.YtikmilcdibldhaaDoorAM29
namespace Go.Proofs.YtikmilcdibldhaaDoor
open Go.RowKit

theorem pthTop : True := by
  have h1 := @pathTells_walk
  have h2 := @pathOwn_walk
  have h3 := @pathShows_walk
  have h4 := @pathFronts_walk
  have h5 := @pthC
  have h6 := @findC15
  have h7 := @awake15
  have h8 := @open_way15
  have h9 := @open_step15
  have h10 := @laid_all
  have h11 := @laid_os
  have h12 := @txt_ext
  have h13 := @txt_data
  have h14 := @txt_size
  trivial
end Go.Proofs.YtikmilcdibldhaaDoor
