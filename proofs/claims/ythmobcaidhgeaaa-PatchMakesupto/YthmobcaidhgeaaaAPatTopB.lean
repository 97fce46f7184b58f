/-
  What the three laws of trees of layer 17 stand on, in one text. No condition.
-/
import Derived.Test.YthmobcaidhgeaaaAM10
import Derived.Test.YthmobcaidhgeaaaAM27
namespace Go.Proofs.Ythmobcaidhgeaaa
open Go.RowKit

theorem patTopB : True := by
  have h2 := @patchMakes_walk
  have h3 := @patchFronts_walk
  have h4 := @patchOnce_walk
  have h5 := @patC
  have h6 := @awake17
  have h7 := @open_node
  have h8 := @open_edits
  have h9 := @open_way
  trivial

end Go.Proofs.Ythmobcaidhgeaaa
