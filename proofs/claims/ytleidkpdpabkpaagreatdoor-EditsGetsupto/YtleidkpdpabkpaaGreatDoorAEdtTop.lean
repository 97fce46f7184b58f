/-
  What three laws of layer 18 stand on, in one text. No condition.
-/
import Derived.Test.YtleidkpdpabkpaaGreatDoorAM38
namespace Go.Proofs.YtleidkpdpabkpaaGreatDoor
open Go.RowKit

theorem edtTop : True := by
  have h1 := @editsPuts_walk
  have h2 := @editsGets_walk
  have h3 := @editsRows_walk
  have h5 := @edtC
  have h6 := @awake18
  have h7 := @open_edits18
  have h8 := @okl_few18
  have h10 := @laid_all
  have h11 := @laid_os
  have h12 := @txt_ext
  have h13 := @txt_data
  have h14 := @txt_size
  trivial
end Go.Proofs.YtleidkpdpabkpaaGreatDoor
