/-
  What the law EditsTrees stands on, in one text. No condition.
-/
import Derived.Test.YtleidkpdpabkpaaGreatDoorBM25
import Derived.Test.YtleidkpdpabkpaaGreatDoorBM26
import Derived.Test.YtleidkpdpabkpaaGreatDoorBM44
namespace Go.Proofs.YtleidkpdpabkpaaGreatDoor
open Go.RowKit

theorem edtTrt : True := by
  have h4 := @editsTrees_walk
  have h5 := @edtC
  have h6 := @awake18
  have h9 := @open_node10
  have h10 := @laid_all
  have h11 := @laid_os
  have h12 := @txt_ext
  have h13 := @txt_data
  have h14 := @txt_size
  trivial
end Go.Proofs.YtleidkpdpabkpaaGreatDoor
