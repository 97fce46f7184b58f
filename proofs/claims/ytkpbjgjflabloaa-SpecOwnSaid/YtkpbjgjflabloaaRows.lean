/-
  No cell of these rows narrows 'for every input' (looked for: loops, veiled, ifaces, maps, wideKeys, modest, calm, conditions, laid).
  DERIVED. THE GIVEN ROWS OF THIS SEAT. 4 by the template 'for every input the law returns true; each argument reads behind the call as it read before'; 0 by the template 'total and deterministic' (their statements: YtkpbjgjflabloaaTotals.lean).
  GIVEN WITH THE SEED: the statements are not yours to turn. If you find one false, say at which input.
  Laid BY PROGRAM, IN A SANDBOX (cutbox-rows.mjs): the forced cells as the released guide's own fill.sh prints them over the translation 379b33bb80bfbc04… (all of the seat's roots in one cut). By AI agents, Wed Nov 11 2026. No macro, syntax, notation, axiom, sorry.
-/
import Derived.Test.YtkpbjgjflabloaaChecked
import GoSem.Claim
import GoSem.ClaimJoined
import GoSem.ClaimMapViews
import Derived.JoinedTies
import Derived.KernelRfl
namespace Go.Proofs.Ytkpbjgjflabloaa
/- THE CELL 'sum', in the pinned program and in every row, IS THE sha256 OF THE DUMP (.gsa) THAT YtkpbjgjflabloaaProg.lean LOADS. Nothing in Lean hashes anything: it is a label: what it is worth is what the hold of that sum in a sandbox is worth. -/
noncomputable def Try.pinned : Pinned := { name := "ytkpbjgjflabloaa", sum := "379b33bb80bfbc04fcdc1f2a1d17016b93daf3a103a76b606b86d22d349eb3f1", checked := Try.checked }
namespace Rows
def none {H : Type} : Left H := { results := [], args := [] }

/-- 'tollbarlaw07.SpecTells': WHATEVER THE INPUT: true; the input reads as it did. -/
def specTellsSpec : ChangeSpec := { name := "specTells", fn := fun _ => fun
  | [d1, d2, d3] => { results := [.lit (.bool true)], args := [d1, d2, d3] }
  | _ => none }
def specTellsRow : OpenClaim := { program := "ytkpbjgjflabloaa", sum := "379b33bb80bfbc04fcdc1f2a1d17016b93daf3a103a76b606b86d22d349eb3f1", func := "tollbar/tollbarlaw07.SpecTells", spec := "specTells", inPlace := ["slices.overlaps[tollbar/spec.Spec]"], unfollowed := true, recurses := true, apart := false }
def SpecTellsSaid : Prop := specTellsRow.holds Try.pinned (OpenSpec.ofChange specTellsSpec)

/-- ITS FALSE NEIGHBOUR: 'it returns false'. Refute it at one input. -/
def specTellsWrong : ChangeSpec := { name := "specTells", fn := fun _ => fun
  | [d1, d2, d3] => { results := [.lit (.bool false)], args := [d1, d2, d3] }
  | _ => none }
def SpecTellsWrongFalsely : Prop := specTellsRow.holds Try.pinned (OpenSpec.ofChange specTellsWrong)

/-- 'tollbarlaw07.SpecTags': WHATEVER THE INPUT: true; the input reads as it did. -/
def specTagsSpec : ChangeSpec := { name := "specTags", fn := fun _ => fun
  | [d1, d2, d3] => { results := [.lit (.bool true)], args := [d1, d2, d3] }
  | _ => none }
def specTagsRow : OpenClaim := { program := "ytkpbjgjflabloaa", sum := "379b33bb80bfbc04fcdc1f2a1d17016b93daf3a103a76b606b86d22d349eb3f1", func := "tollbar/tollbarlaw07.SpecTags", spec := "specTags", inPlace := ["slices.overlaps[tollbar/spec.Spec]"], unfollowed := true, recurses := true, apart := false }
def SpecTagsSaid : Prop := specTagsRow.holds Try.pinned (OpenSpec.ofChange specTagsSpec)

/-- ITS FALSE NEIGHBOUR: 'it returns false'. Refute it at one input. -/
def specTagsWrong : ChangeSpec := { name := "specTags", fn := fun _ => fun
  | [d1, d2, d3] => { results := [.lit (.bool false)], args := [d1, d2, d3] }
  | _ => none }
def SpecTagsWrongFalsely : Prop := specTagsRow.holds Try.pinned (OpenSpec.ofChange specTagsWrong)

/-- 'tollbarlaw07.SpecGrows': WHATEVER THE INPUT: true; the input reads as it did. -/
def specGrowsSpec : ChangeSpec := { name := "specGrows", fn := fun _ => fun
  | [d] => { results := [.lit (.bool true)], args := [d] }
  | _ => none }
def specGrowsRow : OpenClaim := { program := "ytkpbjgjflabloaa", sum := "379b33bb80bfbc04fcdc1f2a1d17016b93daf3a103a76b606b86d22d349eb3f1", func := "tollbar/tollbarlaw07.SpecGrows", spec := "specGrows", inPlace := ["slices.overlaps[tollbar/spec.Spec]"], unfollowed := true, recurses := true, apart := false }
def SpecGrowsSaid : Prop := specGrowsRow.holds Try.pinned (OpenSpec.ofChange specGrowsSpec)

/-- ITS FALSE NEIGHBOUR: 'it returns false'. Refute it at one input. -/
def specGrowsWrong : ChangeSpec := { name := "specGrows", fn := fun _ => fun
  | [d] => { results := [.lit (.bool false)], args := [d] }
  | _ => none }
def SpecGrowsWrongFalsely : Prop := specGrowsRow.holds Try.pinned (OpenSpec.ofChange specGrowsWrong)

/-- 'tollbarlaw07.SpecOwn': WHATEVER THE INPUT: true; the input reads as it did. -/
def specOwnSpec : ChangeSpec := { name := "specOwn", fn := fun _ => fun
  | [d1, d2] => { results := [.lit (.bool true)], args := [d1, d2] }
  | _ => none }
def specOwnRow : OpenClaim := { program := "ytkpbjgjflabloaa", sum := "379b33bb80bfbc04fcdc1f2a1d17016b93daf3a103a76b606b86d22d349eb3f1", func := "tollbar/tollbarlaw07.SpecOwn", spec := "specOwn", inPlace := ["slices.overlaps[tollbar/spec.Spec]"], unfollowed := true, recurses := true, apart := false }
def SpecOwnSaid : Prop := specOwnRow.holds Try.pinned (OpenSpec.ofChange specOwnSpec)

/-- ITS FALSE NEIGHBOUR: 'it returns false'. Refute it at one input. -/
def specOwnWrong : ChangeSpec := { name := "specOwn", fn := fun _ => fun
  | [d1, d2] => { results := [.lit (.bool false)], args := [d1, d2] }
  | _ => none }
def SpecOwnWrongFalsely : Prop := specOwnRow.holds Try.pinned (OpenSpec.ofChange specOwnWrong)

/- THE SECOND FORM. 'bulk': how many values and letters a reading holds, each counted each time it is reached (what is shared counts as often as it is met; a slice's spare places count too). A statement '..UptoSaid' is the law's where the arguments, and the package variables that the reading takes, are together of bulk at most 1048576: NARROWER than '..Said'. Prove '..Said' where nothing that the law and all that it calls make is longer than what came in: it says more and counts as full. Else prove '..UptoSaid'. A law counts once. -/
mutual
def uptoBulk {H : Type} : DataW H → Nat
  | .lit (.string bytes) => bytes.length + 1
  | .lit _ => 1
  | .nil => 1
  | .ptr d => uptoBulk d + 1
  | .slice elems spare => uptoBulkAll elems + uptoBulkAll spare + 1
  | .agg parts => uptoBulkAll parts + 1
  | .iface _ d => uptoBulk d + 1
  | .map entries => uptoBulkEntries entries + 1
  | .held _ => 1
def uptoBulkAll {H : Type} : List (DataW H) → Nat
  | [] => 0
  | d :: r => uptoBulk d + uptoBulkAll r
def uptoBulkEntries {H : Type} : List (Lit × DataW H) → Nat
  | [] => 0
  | x :: r => uptoBulkEntry x + uptoBulkEntries r
def uptoBulkEntry {H : Type} : Lit × DataW H → Nat
  | (.string bytes, d) => bytes.length + uptoBulk d + 1
  | (_, d) => uptoBulk d + 1
 end
def uptoSmall : (H : Type) → List (DataW H) → Bool := fun _ ds => decide (uptoBulkAll ds ≤ 1048576)
def OpenSpec.upto (s : _root_.Go.ChangeSpec) : _root_.Go.OpenSpec := { _root_.Go.OpenSpec.ofChange s with cond := some uptoSmall }

/-- 'tollbarlaw07.SpecTells', WHERE WHAT IT READS IS OF BULK AT MOST 1048576: true; the input reads as it did. -/
def specTellsUptoRow : OpenClaim := { program := "ytkpbjgjflabloaa", sum := "379b33bb80bfbc04fcdc1f2a1d17016b93daf3a103a76b606b86d22d349eb3f1", func := "tollbar/tollbarlaw07.SpecTells", spec := "specTells", inPlace := ["slices.overlaps[tollbar/spec.Spec]"], unfollowed := true, recurses := true, apart := false, narrowed := true }
def SpecTellsUptoSaid : Prop := specTellsUptoRow.holds Try.pinned (OpenSpec.upto specTellsSpec)

/-- 'tollbarlaw07.SpecTags', WHERE WHAT IT READS IS OF BULK AT MOST 1048576: true; the input reads as it did. -/
def specTagsUptoRow : OpenClaim := { program := "ytkpbjgjflabloaa", sum := "379b33bb80bfbc04fcdc1f2a1d17016b93daf3a103a76b606b86d22d349eb3f1", func := "tollbar/tollbarlaw07.SpecTags", spec := "specTags", inPlace := ["slices.overlaps[tollbar/spec.Spec]"], unfollowed := true, recurses := true, apart := false, narrowed := true }
def SpecTagsUptoSaid : Prop := specTagsUptoRow.holds Try.pinned (OpenSpec.upto specTagsSpec)

/-- 'tollbarlaw07.SpecGrows', WHERE WHAT IT READS IS OF BULK AT MOST 1048576: true; the input reads as it did. -/
def specGrowsUptoRow : OpenClaim := { program := "ytkpbjgjflabloaa", sum := "379b33bb80bfbc04fcdc1f2a1d17016b93daf3a103a76b606b86d22d349eb3f1", func := "tollbar/tollbarlaw07.SpecGrows", spec := "specGrows", inPlace := ["slices.overlaps[tollbar/spec.Spec]"], unfollowed := true, recurses := true, apart := false, narrowed := true }
def SpecGrowsUptoSaid : Prop := specGrowsUptoRow.holds Try.pinned (OpenSpec.upto specGrowsSpec)

/-- 'tollbarlaw07.SpecOwn', WHERE WHAT IT READS IS OF BULK AT MOST 1048576: true; the input reads as it did. -/
def specOwnUptoRow : OpenClaim := { program := "ytkpbjgjflabloaa", sum := "379b33bb80bfbc04fcdc1f2a1d17016b93daf3a103a76b606b86d22d349eb3f1", func := "tollbar/tollbarlaw07.SpecOwn", spec := "specOwn", inPlace := ["slices.overlaps[tollbar/spec.Spec]"], unfollowed := true, recurses := true, apart := false, narrowed := true }
def SpecOwnUptoSaid : Prop := specOwnUptoRow.holds Try.pinned (OpenSpec.upto specOwnSpec)

end Rows
end Go.Proofs.Ytkpbjgjflabloaa
