/- What the laws of package tree want of TreSetR. -/
import Derived.Test.YtgipnemcmiohlaaZ0TreWithR
namespace Go.Proofs.Ytgipnemcmiohlaa
open Go.RowKit
set_option linter.unusedSimpArgs false
set_option linter.unusedVariables false
theorem row_one {D : RdOf NdD} {W : World} {S : Nat → Prop} {a : NdD} {f : NdF} {v : Value} (hD : FrN D 6 5 W S noB (ndC a v) a f) {g : Nat} {t : TypeId} (hS : S g) (hb : Blk W g t (ndC a v).toArray) : FrV D 6 5 W S noB (.slice (some ⟨g, 0, none⟩) 1 1) (oneF (a, f)) :=
  FrV.lit hS hb (rowG.one hD) (Nat.le_refl _)
end Go.Proofs.Ytgipnemcmiohlaa

