/-
  From a row's list of package-level variables to the table's cells; a world for the witness. No condition but those of each theorem.
-/
import Derived.Test.YtepcaaejadeklaaDoorTie
import Derived.Test.YtepcaaejadeklaaDoorCards
import Derived.Test.YtepcaaejadeklaaDoorFrmFnD
import Derived.ProofKit
import Derived.Deep.DeepHandedRow
import Derived.Lib.LaidTab
namespace Go.Proofs.YtepcaaejadeklaaDoor
open Go.RowKit

theorem gEff : Tryd.prog.globalNamed "tollbar/frame.effect" = some 0 := by kernel_rfl
theorem gEffType : (Tryd.prog.globals[0]?).map (·.type) = some 71 := by kernel_rfl
theorem cellsArr : Tryd.prog.cellsOf 71 = 16 := by kernel_rfl
theorem cellsU32 : Tryd.prog.cellsOf 33 = 1 := by kernel_rfl
def effs : List Int := (List.range 16).map fun j => ((crTn 4 j : Nat) : Int)
theorem effs_eq : ∀ j, j < 16 → effs.getD j 0 = ((crTn 4 j : Nat) : Int) := by decide
theorem laidIs : Rows.laid_tollbar_frame_effect (H := Unit) = Lib.tabData .u32 effs := by kernel_rfl
/-- WHAT THE ROWS' LIST GIVES: the table's cells. -/
theorem table {W : World} (h : laidMetH Tryd.prog [("tollbar/frame.effect", Rows.laid_tollbar_frame_effect)] W) : Tab W := by
  rw [laidIs] at h
  have hT := Lib.tabIs_of_head (rest := []) gEff gEffType Tryd.underlying71 Tryd.underlying33 cellsU32 cellsArr h
  exact fun j hj => (hT.cell gEff j (by simpa [effs] using hj)).trans (by rw [effs_eq j hj])

/-- The settled world, the table holding what its initialiser lays. -/
noncomputable def laidWorld (os : Os) : World :=
  { World.holding Tryd.prog os ⟨#[], #[], []⟩ with heap := (World.holding Tryd.prog os ⟨#[], #[], []⟩).heap.modify 0 fun
      | .cells _ t frozen => .cells (effs.map fun z => Value.int .u32 z).toArray t frozen
      | o => o }

end Go.Proofs.YtepcaaejadeklaaDoor
