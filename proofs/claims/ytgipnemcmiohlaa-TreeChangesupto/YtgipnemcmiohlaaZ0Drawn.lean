/- What the laws of package tree want of Drawn. -/
import Derived.Test.YtgipnemcmiohlaaZ0TreRefB
import Derived.Test.YtgipnemcmiohlaaRows
import Derived.Deep.RegionHeld3
namespace Go.Proofs.Ytgipnemcmiohlaa
theorem held_more {P : Program} {md : Region.Mode} {ops : Array Oper} {Q : Exit → Act → World → Prop} {S S' : World → Prop} (h : ∀ w, S' w → S w) :
    ∀ (fuel : Nat) (listed : Array Bool) (a : Act) (w : World), wpAnyH P md ops Q S' fuel listed a w → wpAnyH P md ops Q S fuel listed a w
  | 0, _, _, _, hw => hw
  | fuel + 1, _, _, _, hw => ⟨hw.1, fun i hi => wpOp_mono (fun _ _ hq => ⟨h _ hq.1, held_more h fuel _ _ _ hq.2⟩) (hw.2 i hi)⟩
end Go.Proofs.Ytgipnemcmiohlaa

