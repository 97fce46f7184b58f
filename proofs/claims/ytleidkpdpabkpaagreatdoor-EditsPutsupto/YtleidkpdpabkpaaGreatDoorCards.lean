/-
  DERIVED. GIVEN WITH THE SEED: THE CARDS: each row of YtleidkpdpabkpaaGreatDoorRows.lean that lists a variable, with what it lists TIED to the program's text (the seventh form; the later family's looks); each row that meets fmt, with fmt's text TOLD by the authors' own Lean function (tested against real Go, not proved from fmt's source: count such statements apart). THE CARD IS WHAT COUNTS. Prove the row's statement (the work); the ties are given (YtleidkpdpabkpaaGreatDoorTie.lean); close each card by the builder's one call (the guide's Derived/Test/ToyasCard.lean, 'card_holds'). Laid BY PROGRAM, IN A SANDBOX (cutbox-door.mjs). By AI agents, Wed Nov 11 2026. No macro, syntax, notation, axiom, sorry.
-/
import Derived.Test.YtleidkpdpabkpaaGreatDoorRows
import GoSem.ClaimSeven
namespace Go.Proofs.YtleidkpdpabkpaaGreatDoor
namespace Rows

/-- THE TIED CARD OF 'tollbarlaw18.EditsPuts'. -/
def editsPutsCard : Claim7 := { stood := { row := editsPutsRow, standIns := [], harness := (true, "2226d9e66a47dc7e756b7eaee6442d37ba9c9dbaa6e3d03fabb0b2340a91e8f4"), looks := true }, kinds := [], alts := [], laidByText := true, laidKinds := [.data, .pinned], laidTests := true, laidLooks := .later }
def EditsPutsCardSaid : Prop := Claim7.holds Tryz.pinned (.plain (OpenSpec.ofChange editsPutsSpec)) editsPutsCard

/-- THE TIED CARD OF 'tollbarlaw18.EditsGets'. -/
def editsGetsCard : Claim7 := { stood := { row := editsGetsRow, standIns := [], harness := (true, "2226d9e66a47dc7e756b7eaee6442d37ba9c9dbaa6e3d03fabb0b2340a91e8f4"), looks := true }, kinds := [], alts := [], laidByText := true, laidKinds := [.data, .pinned], laidTests := true, laidLooks := .later }
def EditsGetsCardSaid : Prop := Claim7.holds Tryz.pinned (.plain (OpenSpec.ofChange editsGetsSpec)) editsGetsCard

/-- THE TIED CARD OF 'tollbarlaw18.EditsTrees'. -/
def editsTreesCard : Claim7 := { stood := { row := editsTreesRow, standIns := [], harness := (true, "2226d9e66a47dc7e756b7eaee6442d37ba9c9dbaa6e3d03fabb0b2340a91e8f4"), looks := true }, kinds := [], alts := [], laidByText := true, laidKinds := [.data, .pinned], laidTests := true, laidLooks := .later }
def EditsTreesCardSaid : Prop := Claim7.holds Tryz.pinned (.plain (OpenSpec.ofChange editsTreesSpec)) editsTreesCard

/-- THE TIED CARD OF 'tollbarlaw18.EditsRows'. -/
def editsRowsCard : Claim7 := { stood := { row := editsRowsRow, standIns := [], harness := (true, "2226d9e66a47dc7e756b7eaee6442d37ba9c9dbaa6e3d03fabb0b2340a91e8f4"), looks := true }, kinds := [], alts := [], laidByText := true, laidKinds := [.data, .pinned], laidTests := true, laidLooks := .later }
def EditsRowsCardSaid : Prop := Claim7.holds Tryz.pinned (.plain (OpenSpec.ofChange editsRowsSpec)) editsRowsCard

/-- THE SECOND FORM's CARD OF 'tollbarlaw18.EditsPuts'. -/
def editsPutsUptoCard : Claim7 := { stood := { row := editsPutsUptoRow, standIns := [], harness := (true, "2226d9e66a47dc7e756b7eaee6442d37ba9c9dbaa6e3d03fabb0b2340a91e8f4"), looks := true }, kinds := [], alts := [], laidByText := true, laidKinds := [.data, .pinned], laidTests := true, laidLooks := .later }
def EditsPutsUptoCardSaid : Prop := Claim7.holds Tryz.pinned (.plain (OpenSpec.upto editsPutsSpec)) editsPutsUptoCard

/-- THE SECOND FORM's CARD OF 'tollbarlaw18.EditsGets'. -/
def editsGetsUptoCard : Claim7 := { stood := { row := editsGetsUptoRow, standIns := [], harness := (true, "2226d9e66a47dc7e756b7eaee6442d37ba9c9dbaa6e3d03fabb0b2340a91e8f4"), looks := true }, kinds := [], alts := [], laidByText := true, laidKinds := [.data, .pinned], laidTests := true, laidLooks := .later }
def EditsGetsUptoCardSaid : Prop := Claim7.holds Tryz.pinned (.plain (OpenSpec.upto editsGetsSpec)) editsGetsUptoCard

/-- THE SECOND FORM's CARD OF 'tollbarlaw18.EditsTrees'. -/
def editsTreesUptoCard : Claim7 := { stood := { row := editsTreesUptoRow, standIns := [], harness := (true, "2226d9e66a47dc7e756b7eaee6442d37ba9c9dbaa6e3d03fabb0b2340a91e8f4"), looks := true }, kinds := [], alts := [], laidByText := true, laidKinds := [.data, .pinned], laidTests := true, laidLooks := .later }
def EditsTreesUptoCardSaid : Prop := Claim7.holds Tryz.pinned (.plain (OpenSpec.upto editsTreesSpec)) editsTreesUptoCard

/-- THE SECOND FORM's CARD OF 'tollbarlaw18.EditsRows'. -/
def editsRowsUptoCard : Claim7 := { stood := { row := editsRowsUptoRow, standIns := [], harness := (true, "2226d9e66a47dc7e756b7eaee6442d37ba9c9dbaa6e3d03fabb0b2340a91e8f4"), looks := true }, kinds := [], alts := [], laidByText := true, laidKinds := [.data, .pinned], laidTests := true, laidLooks := .later }
def EditsRowsUptoCardSaid : Prop := Claim7.holds Tryz.pinned (.plain (OpenSpec.upto editsRowsSpec)) editsRowsUptoCard
end Rows
end Go.Proofs.YtleidkpdpabkpaaGreatDoor
