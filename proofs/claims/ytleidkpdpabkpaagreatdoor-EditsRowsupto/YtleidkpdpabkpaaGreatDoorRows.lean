/-
  NARROWER THAN 'FOR EVERY INPUT', by the rows' own cells (each row's printed sentence says how): EditsPuts: loops, laid · EditsGets: laid · EditsTrees: loops, laid · EditsRows: loops, laid.
  DERIVED. THE GIVEN ROWS OF THIS SEAT. 4 by the template 'for every input the law returns true; each argument reads behind the call as it read before'; 0 by the template 'total and deterministic' (their statements: YtleidkpdpabkpaaGreatDoorTotals.lean).
  GIVEN WITH THE SEED: the statements are not yours to turn. If you find one false, say at which input.
  Laid BY PROGRAM, IN A SANDBOX (cutbox-rows.mjs): the forced cells as the released guide's own fill.sh prints them over the translation c78c5b5537557512… (all of the seat's roots in one cut). By AI agents, Wed Nov 11 2026. No macro, syntax, notation, axiom, sorry.
-/
import Derived.Test.YtleidkpdpabkpaaGreatDoorChecked
import GoSem.PinnedTables
import GoSem.Claim
import GoSem.ClaimJoined
import GoSem.ClaimMapViews
import Derived.JoinedTies
import Derived.KernelRfl
namespace Go.Proofs.YtleidkpdpabkpaaGreatDoor
/- THE CELL 'sum', in the pinned program and in every row, IS THE sha256 OF THE DUMP (.gsa) THAT YtleidkpdpabkpaaGreatDoorProg.lean LOADS. Nothing in Lean hashes anything: it is a label: what it is worth is what the hold of that sum in a sandbox is worth. -/
noncomputable def Tryz.pinned : Pinned := { name := "ytleidkpdpabkpaagreatdoor", sum := "c78c5b55375575124546101ccc86f950968258d188f63a0b14a372da73c9d16b", checked := Tryz.checked }
namespace Rows
def none {H : Type} : Left H := { results := [], args := [] }

/- WHAT THE LISTED PACKAGE-LEVEL VARIABLES READ AS WHEN THE CALL BEGINS. Each datum BY PROGRAM (the guide's laid-datum.mjs) off the statement by which the dump's own 'gosem.cut.vars' lays the variable. In a bare row this is a premise. The card (YtleidkpdpabkpaaGreatDoorCards.lean) ties it to the program's text. -/
def laid_unicode_utf8_acceptRanges {H : Type} : DataW H := .agg [.agg [.lit (.int .u8 128), .lit (.int .u8 191)], .agg [.lit (.int .u8 160), .lit (.int .u8 191)], .agg [.lit (.int .u8 128), .lit (.int .u8 159)], .agg [.lit (.int .u8 144), .lit (.int .u8 191)], .agg [.lit (.int .u8 128), .lit (.int .u8 143)], .agg [.lit (.int .u8 0), .lit (.int .u8 0)], .agg [.lit (.int .u8 0), .lit (.int .u8 0)], .agg [.lit (.int .u8 0), .lit (.int .u8 0)], .agg [.lit (.int .u8 0), .lit (.int .u8 0)], .agg [.lit (.int .u8 0), .lit (.int .u8 0)], .agg [.lit (.int .u8 0), .lit (.int .u8 0)], .agg [.lit (.int .u8 0), .lit (.int .u8 0)], .agg [.lit (.int .u8 0), .lit (.int .u8 0)], .agg [.lit (.int .u8 0), .lit (.int .u8 0)], .agg [.lit (.int .u8 0), .lit (.int .u8 0)], .agg [.lit (.int .u8 0), .lit (.int .u8 0)]]
/-- One of Go's own tables, pinned by name: the form's constant. -/
def laid_unicode_utf8_first : DataW Unit := Go.Pinned.utf8First

/-- 'tollbarlaw18.EditsPuts': WHATEVER THE INPUT: true; the input reads as it did. -/
def editsPutsSpec : ChangeSpec := { name := "editsPuts", fn := fun _ => fun
  | [d] => { results := [.lit (.bool true)], args := [d] }
  | _ => none }
def editsPutsRow : OpenClaim := { program := "ytleidkpdpabkpaagreatdoor", sum := "c78c5b55375575124546101ccc86f950968258d188f63a0b14a372da73c9d16b", func := "tollbar/tollbarlaw18.EditsPuts", spec := "editsPuts", inPlace := ["internal/abi.NoEscape", "internal/bytealg.IndexByteString", "internal/bytealg.IndexString"], unfollowed := true, recurses := true, named := ["unicode/utf8.first", "unicode/utf8.acceptRanges", "internal/bytealg.MaxLen"], loops := true, apart := false, laid := [("unicode/utf8.acceptRanges", laid_unicode_utf8_acceptRanges), ("unicode/utf8.first", laid_unicode_utf8_first)] }
def EditsPutsSaid : Prop := editsPutsRow.holds Tryz.pinned (OpenSpec.ofChange editsPutsSpec)

/-- ITS FALSE NEIGHBOUR: 'it returns false'. Refute it at one input. -/
def editsPutsWrong : ChangeSpec := { name := "editsPuts", fn := fun _ => fun
  | [d] => { results := [.lit (.bool false)], args := [d] }
  | _ => none }
def EditsPutsWrongFalsely : Prop := editsPutsRow.holds Tryz.pinned (OpenSpec.ofChange editsPutsWrong)

/-- 'tollbarlaw18.EditsGets': WHATEVER THE INPUT: true; the input reads as it did. -/
def editsGetsSpec : ChangeSpec := { name := "editsGets", fn := fun _ => fun
  | [d] => { results := [.lit (.bool true)], args := [d] }
  | _ => none }
def editsGetsRow : OpenClaim := { program := "ytleidkpdpabkpaagreatdoor", sum := "c78c5b55375575124546101ccc86f950968258d188f63a0b14a372da73c9d16b", func := "tollbar/tollbarlaw18.EditsGets", spec := "editsGets", inPlace := ["internal/abi.NoEscape", "internal/bytealg.IndexByteString", "internal/bytealg.IndexString"], unfollowed := true, recurses := true, named := ["unicode/utf8.first", "unicode/utf8.acceptRanges", "internal/bytealg.MaxLen"], apart := false, laid := [("unicode/utf8.acceptRanges", laid_unicode_utf8_acceptRanges), ("unicode/utf8.first", laid_unicode_utf8_first)] }
def EditsGetsSaid : Prop := editsGetsRow.holds Tryz.pinned (OpenSpec.ofChange editsGetsSpec)

/-- ITS FALSE NEIGHBOUR: 'it returns false'. Refute it at one input. -/
def editsGetsWrong : ChangeSpec := { name := "editsGets", fn := fun _ => fun
  | [d] => { results := [.lit (.bool false)], args := [d] }
  | _ => none }
def EditsGetsWrongFalsely : Prop := editsGetsRow.holds Tryz.pinned (OpenSpec.ofChange editsGetsWrong)

/-- 'tollbarlaw18.EditsTrees': WHATEVER THE INPUT: true; the input reads as it did. -/
def editsTreesSpec : ChangeSpec := { name := "editsTrees", fn := fun _ => fun
  | [d1, d2, d3] => { results := [.lit (.bool true)], args := [d1, d2, d3] }
  | _ => none }
def editsTreesRow : OpenClaim := { program := "ytleidkpdpabkpaagreatdoor", sum := "c78c5b55375575124546101ccc86f950968258d188f63a0b14a372da73c9d16b", func := "tollbar/tollbarlaw18.EditsTrees", spec := "editsTrees", inPlace := ["internal/abi.NoEscape", "internal/bytealg.IndexByteString", "internal/bytealg.IndexString"], unfollowed := true, recurses := true, named := ["unicode/utf8.first", "unicode/utf8.acceptRanges", "internal/bytealg.MaxLen"], loops := true, apart := false, laid := [("unicode/utf8.acceptRanges", laid_unicode_utf8_acceptRanges), ("unicode/utf8.first", laid_unicode_utf8_first)] }
def EditsTreesSaid : Prop := editsTreesRow.holds Tryz.pinned (OpenSpec.ofChange editsTreesSpec)

/-- ITS FALSE NEIGHBOUR: 'it returns false'. Refute it at one input. -/
def editsTreesWrong : ChangeSpec := { name := "editsTrees", fn := fun _ => fun
  | [d1, d2, d3] => { results := [.lit (.bool false)], args := [d1, d2, d3] }
  | _ => none }
def EditsTreesWrongFalsely : Prop := editsTreesRow.holds Tryz.pinned (OpenSpec.ofChange editsTreesWrong)

/-- 'tollbarlaw18.EditsRows': WHATEVER THE INPUT: true; the input reads as it did. -/
def editsRowsSpec : ChangeSpec := { name := "editsRows", fn := fun _ => fun
  | [d1, d2] => { results := [.lit (.bool true)], args := [d1, d2] }
  | _ => none }
def editsRowsRow : OpenClaim := { program := "ytleidkpdpabkpaagreatdoor", sum := "c78c5b55375575124546101ccc86f950968258d188f63a0b14a372da73c9d16b", func := "tollbar/tollbarlaw18.EditsRows", spec := "editsRows", inPlace := ["internal/abi.NoEscape", "internal/bytealg.IndexByteString", "internal/bytealg.IndexString"], unfollowed := true, recurses := true, named := ["unicode/utf8.first", "unicode/utf8.acceptRanges", "internal/bytealg.MaxLen"], loops := true, apart := false, laid := [("unicode/utf8.acceptRanges", laid_unicode_utf8_acceptRanges), ("unicode/utf8.first", laid_unicode_utf8_first)] }
def EditsRowsSaid : Prop := editsRowsRow.holds Tryz.pinned (OpenSpec.ofChange editsRowsSpec)

/-- ITS FALSE NEIGHBOUR: 'it returns false'. Refute it at one input. -/
def editsRowsWrong : ChangeSpec := { name := "editsRows", fn := fun _ => fun
  | [d1, d2] => { results := [.lit (.bool false)], args := [d1, d2] }
  | _ => none }
def EditsRowsWrongFalsely : Prop := editsRowsRow.holds Tryz.pinned (OpenSpec.ofChange editsRowsWrong)

/- THE SECOND FORM. 'bulk': how many values and letters a reading holds, each counted each time it is reached (what is shared counts as often as it is met; a slice's spare places count too). A statement '..UptoSaid' is the law's where the arguments, and the package variables that the reading takes, are together of bulk at most 1048576: NARROWER than '..Said'. Prove '..Said' where nothing that the law and all that it calls make is longer than what came in: it says more and counts as full. Else prove '..UptoSaid'. A law counts once. -/
mutual
def uptoBulk {H : Type} : DataW H → Nat
  | .lit (.string bytes) => bytes.length + 1
  | .lit _ => 1
  | .nil => 1
  | .ptr d => uptoBulk d + 1
  | .slice elems spare => uptoBulkAll elems + uptoBulkAll spare + 1
  | .agg parts => uptoBulkAll parts + 1
  | .iface _ d => uptoBulk d + 1
  | .map entries => uptoBulkEntries entries + 1
  | .held _ => 1
def uptoBulkAll {H : Type} : List (DataW H) → Nat
  | [] => 0
  | d :: r => uptoBulk d + uptoBulkAll r
def uptoBulkEntries {H : Type} : List (Lit × DataW H) → Nat
  | [] => 0
  | x :: r => uptoBulkEntry x + uptoBulkEntries r
def uptoBulkEntry {H : Type} : Lit × DataW H → Nat
  | (.string bytes, d) => bytes.length + uptoBulk d + 1
  | (_, d) => uptoBulk d + 1
 end
def uptoSmall : (H : Type) → List (DataW H) → Bool := fun _ ds => decide (uptoBulkAll ds ≤ 1048576)
def OpenSpec.upto (s : _root_.Go.ChangeSpec) : _root_.Go.OpenSpec := { _root_.Go.OpenSpec.ofChange s with cond := some uptoSmall }

/-- 'tollbarlaw18.EditsPuts', WHERE WHAT IT READS IS OF BULK AT MOST 1048576: true; the input reads as it did. -/
def editsPutsUptoRow : OpenClaim := { program := "ytleidkpdpabkpaagreatdoor", sum := "c78c5b55375575124546101ccc86f950968258d188f63a0b14a372da73c9d16b", func := "tollbar/tollbarlaw18.EditsPuts", spec := "editsPuts", inPlace := ["internal/abi.NoEscape", "internal/bytealg.IndexByteString", "internal/bytealg.IndexString"], unfollowed := true, recurses := true, named := ["unicode/utf8.first", "unicode/utf8.acceptRanges", "internal/bytealg.MaxLen"], loops := true, apart := false, laid := [("unicode/utf8.acceptRanges", laid_unicode_utf8_acceptRanges), ("unicode/utf8.first", laid_unicode_utf8_first)], narrowed := true }
def EditsPutsUptoSaid : Prop := editsPutsUptoRow.holds Tryz.pinned (OpenSpec.upto editsPutsSpec)

/-- 'tollbarlaw18.EditsGets', WHERE WHAT IT READS IS OF BULK AT MOST 1048576: true; the input reads as it did. -/
def editsGetsUptoRow : OpenClaim := { program := "ytleidkpdpabkpaagreatdoor", sum := "c78c5b55375575124546101ccc86f950968258d188f63a0b14a372da73c9d16b", func := "tollbar/tollbarlaw18.EditsGets", spec := "editsGets", inPlace := ["internal/abi.NoEscape", "internal/bytealg.IndexByteString", "internal/bytealg.IndexString"], unfollowed := true, recurses := true, named := ["unicode/utf8.first", "unicode/utf8.acceptRanges", "internal/bytealg.MaxLen"], apart := false, laid := [("unicode/utf8.acceptRanges", laid_unicode_utf8_acceptRanges), ("unicode/utf8.first", laid_unicode_utf8_first)], narrowed := true }
def EditsGetsUptoSaid : Prop := editsGetsUptoRow.holds Tryz.pinned (OpenSpec.upto editsGetsSpec)

/-- 'tollbarlaw18.EditsTrees', WHERE WHAT IT READS IS OF BULK AT MOST 1048576: true; the input reads as it did. -/
def editsTreesUptoRow : OpenClaim := { program := "ytleidkpdpabkpaagreatdoor", sum := "c78c5b55375575124546101ccc86f950968258d188f63a0b14a372da73c9d16b", func := "tollbar/tollbarlaw18.EditsTrees", spec := "editsTrees", inPlace := ["internal/abi.NoEscape", "internal/bytealg.IndexByteString", "internal/bytealg.IndexString"], unfollowed := true, recurses := true, named := ["unicode/utf8.first", "unicode/utf8.acceptRanges", "internal/bytealg.MaxLen"], loops := true, apart := false, laid := [("unicode/utf8.acceptRanges", laid_unicode_utf8_acceptRanges), ("unicode/utf8.first", laid_unicode_utf8_first)], narrowed := true }
def EditsTreesUptoSaid : Prop := editsTreesUptoRow.holds Tryz.pinned (OpenSpec.upto editsTreesSpec)

/-- 'tollbarlaw18.EditsRows', WHERE WHAT IT READS IS OF BULK AT MOST 1048576: true; the input reads as it did. -/
def editsRowsUptoRow : OpenClaim := { program := "ytleidkpdpabkpaagreatdoor", sum := "c78c5b55375575124546101ccc86f950968258d188f63a0b14a372da73c9d16b", func := "tollbar/tollbarlaw18.EditsRows", spec := "editsRows", inPlace := ["internal/abi.NoEscape", "internal/bytealg.IndexByteString", "internal/bytealg.IndexString"], unfollowed := true, recurses := true, named := ["unicode/utf8.first", "unicode/utf8.acceptRanges", "internal/bytealg.MaxLen"], loops := true, apart := false, laid := [("unicode/utf8.acceptRanges", laid_unicode_utf8_acceptRanges), ("unicode/utf8.first", laid_unicode_utf8_first)], narrowed := true }
def EditsRowsUptoSaid : Prop := editsRowsUptoRow.holds Tryz.pinned (OpenSpec.upto editsRowsSpec)

end Rows
end Go.Proofs.YtleidkpdpabkpaaGreatDoor
