/- PtvC PtvLaid -/
import Derived.Test.YtikmilcdibldhaaDoorAM0
import Derived.Test.YtikmilcdibldhaaDoorAM13
import Derived.Test.YtikmilcdibldhaaDoorAM18
import Derived.Test.YtikmilcdibldhaaDoorAM19
import Derived.Test.YtikmilcdibldhaaDoorAM28
import Derived.Test.YtikmilcdibldhaaDoorTie
import Derived.Test.YtikmilcdibldhaaDoorCards
import Derived.ProofKit
import Derived.Deep.DeepHandedRow
import Derived.Lib.LaidTab
import Derived.Lay
import Derived.MakeChecks
set_option linter.unusedSimpArgs false
set_option linter.unusedVariables false
namespace Go.Proofs.YtikmilcdibldhaaDoor
open Go.RowKit
theorem pthC (W0 : World) : PthC W0 where
 parse := fun s w h _ => parse15_any s (by omega) w
 show_ := fun l v w hv hl hs _ => show15_any l v w hv hl hs
 at_ := fun x l v w _ _ hv hl hs _ => at15_any x l v w hv hl (fun s h => (hs s h).2)
 under := fun l m va vb w ha hb hl hm _ => under15_any l m va vb w ha hb hl hm
theorem findC15 (W0 : World) : FindC W0 := findC W0
end Go.Proofs.YtikmilcdibldhaaDoor
namespace Go.Proofs.YtikmilcdibldhaaDoor
open Go.RowKit
def laidL : List (String × DataW Unit) := [("unicode/utf8.acceptRanges", Rows.laid_unicode_utf8_acceptRanges), ("unicode/utf8.first", Rows.laid_unicode_utf8_first)]
noncomputable def laidWorld (os : Os) : World := World.laidAll Tryd.prog os laidL
theorem laid_os (os : Os) : (laidWorld os).os = os := World.laidAll_os _ _ _
theorem laid_all (os : Os) (args : Array Value) : laidMet Tryd.prog laidL ((laidWorld os).forCall (fun _ _ => 0) ⟨#[], args, []⟩).memory :=
 laidMet_laidAll args (by kernel_rfl) (by kernel_rfl)
end Go.Proofs.YtikmilcdibldhaaDoor
