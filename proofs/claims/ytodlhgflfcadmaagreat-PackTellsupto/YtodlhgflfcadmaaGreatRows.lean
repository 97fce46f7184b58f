/-
  NARROWER THAN 'FOR EVERY INPUT', by the rows' own cells (each row's printed sentence says how): PackTells: loops · PackApart: loops · PackRises: loops · PackParts: loops.
  DERIVED. THE GIVEN ROWS OF THIS SEAT. 4 by the template 'for every input the law returns true; each argument reads behind the call as it read before'; 0 by the template 'total and deterministic' (their statements: YtodlhgflfcadmaaGreatTotals.lean).
  GIVEN WITH THE SEED: the statements are not yours to turn. If you find one false, say at which input.
  Laid BY PROGRAM, IN A SANDBOX (cutbox-rows.mjs): the forced cells as the released guide's own fill.sh prints them over the translation c28be58b4047419b… (all of the seat's roots in one cut). By AI agents, Wed Nov 11 2026. No macro, syntax, notation, axiom, sorry.
-/
import Derived.Test.YtodlhgflfcadmaaGreatChecked
import GoSem.Claim
import GoSem.ClaimJoined
import GoSem.ClaimMapViews
import Derived.JoinedTies
import Derived.KernelRfl
namespace Go.Proofs.YtodlhgflfcadmaaGreat
/- THE CELL 'sum', in the pinned program and in every row, IS THE sha256 OF THE DUMP (.gsa) THAT YtodlhgflfcadmaaGreatProg.lean LOADS. Nothing in Lean hashes anything: it is a label: what it is worth is what the hold of that sum in a sandbox is worth. -/
noncomputable def Tryz.pinned : Pinned := { name := "ytodlhgflfcadmaagreat", sum := "c28be58b4047419b8ff962bda14848ef85c131bb19a0f6a9de7e8934f44a699a", checked := Tryz.checked }
namespace Rows
def none {H : Type} : Left H := { results := [], args := [] }

/-- 'tollbarlaw13.PackTells': WHATEVER THE INPUT: true; the input reads as it did. -/
def packTellsSpec : ChangeSpec := { name := "packTells", fn := fun _ => fun
  | [d1, d2] => { results := [.lit (.bool true)], args := [d1, d2] }
  | _ => none }
def packTellsRow : OpenClaim := { program := "ytodlhgflfcadmaagreat", sum := "c28be58b4047419b8ff962bda14848ef85c131bb19a0f6a9de7e8934f44a699a", func := "tollbar/tollbarlaw13.PackTells", spec := "packTells", inPlace := ["slices.overlaps[tollbar/spec.Spec]", "internal/bytealg.abigen_runtime_cmpstring", "slices.overlaps[tollbar/api.Step]"], unfollowed := true, recurses := true, loops := true, apart := false }
def PackTellsSaid : Prop := packTellsRow.holds Tryz.pinned (OpenSpec.ofChange packTellsSpec)

/-- ITS FALSE NEIGHBOUR: 'it returns false'. Refute it at one input. -/
def packTellsWrong : ChangeSpec := { name := "packTells", fn := fun _ => fun
  | [d1, d2] => { results := [.lit (.bool false)], args := [d1, d2] }
  | _ => none }
def PackTellsWrongFalsely : Prop := packTellsRow.holds Tryz.pinned (OpenSpec.ofChange packTellsWrong)

/-- 'tollbarlaw13.PackApart': WHATEVER THE INPUT: true; the input reads as it did. -/
def packApartSpec : ChangeSpec := { name := "packApart", fn := fun _ => fun
  | [d1, d2, d3] => { results := [.lit (.bool true)], args := [d1, d2, d3] }
  | _ => none }
def packApartRow : OpenClaim := { program := "ytodlhgflfcadmaagreat", sum := "c28be58b4047419b8ff962bda14848ef85c131bb19a0f6a9de7e8934f44a699a", func := "tollbar/tollbarlaw13.PackApart", spec := "packApart", inPlace := ["slices.overlaps[tollbar/spec.Spec]", "internal/bytealg.abigen_runtime_cmpstring", "slices.overlaps[tollbar/api.Step]"], unfollowed := true, recurses := true, loops := true, apart := false }
def PackApartSaid : Prop := packApartRow.holds Tryz.pinned (OpenSpec.ofChange packApartSpec)

/-- ITS FALSE NEIGHBOUR: 'it returns false'. Refute it at one input. -/
def packApartWrong : ChangeSpec := { name := "packApart", fn := fun _ => fun
  | [d1, d2, d3] => { results := [.lit (.bool false)], args := [d1, d2, d3] }
  | _ => none }
def PackApartWrongFalsely : Prop := packApartRow.holds Tryz.pinned (OpenSpec.ofChange packApartWrong)

/-- 'tollbarlaw13.PackRises': WHATEVER THE INPUT: true; the input reads as it did. -/
def packRisesSpec : ChangeSpec := { name := "packRises", fn := fun _ => fun
  | [d1, d2] => { results := [.lit (.bool true)], args := [d1, d2] }
  | _ => none }
def packRisesRow : OpenClaim := { program := "ytodlhgflfcadmaagreat", sum := "c28be58b4047419b8ff962bda14848ef85c131bb19a0f6a9de7e8934f44a699a", func := "tollbar/tollbarlaw13.PackRises", spec := "packRises", inPlace := ["slices.overlaps[tollbar/spec.Spec]", "internal/bytealg.abigen_runtime_cmpstring", "slices.overlaps[tollbar/api.Step]"], unfollowed := true, recurses := true, loops := true, apart := false }
def PackRisesSaid : Prop := packRisesRow.holds Tryz.pinned (OpenSpec.ofChange packRisesSpec)

/-- ITS FALSE NEIGHBOUR: 'it returns false'. Refute it at one input. -/
def packRisesWrong : ChangeSpec := { name := "packRises", fn := fun _ => fun
  | [d1, d2] => { results := [.lit (.bool false)], args := [d1, d2] }
  | _ => none }
def PackRisesWrongFalsely : Prop := packRisesRow.holds Tryz.pinned (OpenSpec.ofChange packRisesWrong)

/-- 'tollbarlaw13.PackParts': WHATEVER THE INPUT: true; the input reads as it did. -/
def packPartsSpec : ChangeSpec := { name := "packParts", fn := fun _ => fun
  | [d1, d2] => { results := [.lit (.bool true)], args := [d1, d2] }
  | _ => none }
def packPartsRow : OpenClaim := { program := "ytodlhgflfcadmaagreat", sum := "c28be58b4047419b8ff962bda14848ef85c131bb19a0f6a9de7e8934f44a699a", func := "tollbar/tollbarlaw13.PackParts", spec := "packParts", inPlace := ["slices.overlaps[tollbar/spec.Spec]", "internal/bytealg.abigen_runtime_cmpstring", "slices.overlaps[tollbar/api.Step]"], unfollowed := true, recurses := true, loops := true, apart := false }
def PackPartsSaid : Prop := packPartsRow.holds Tryz.pinned (OpenSpec.ofChange packPartsSpec)

/-- ITS FALSE NEIGHBOUR: 'it returns false'. Refute it at one input. -/
def packPartsWrong : ChangeSpec := { name := "packParts", fn := fun _ => fun
  | [d1, d2] => { results := [.lit (.bool false)], args := [d1, d2] }
  | _ => none }
def PackPartsWrongFalsely : Prop := packPartsRow.holds Tryz.pinned (OpenSpec.ofChange packPartsWrong)

/- THE SECOND FORM. 'bulk': how many values and letters a reading holds, each counted each time it is reached (what is shared counts as often as it is met; a slice's spare places count too). A statement '..UptoSaid' is the law's where the arguments, and the package variables that the reading takes, are together of bulk at most 1048576: NARROWER than '..Said'. Prove '..Said' where nothing that the law and all that it calls make is longer than what came in: it says more and counts as full. Else prove '..UptoSaid'. A law counts once. -/
mutual
def uptoBulk {H : Type} : DataW H → Nat
  | .lit (.string bytes) => bytes.length + 1
  | .lit _ => 1
  | .nil => 1
  | .ptr d => uptoBulk d + 1
  | .slice elems spare => uptoBulkAll elems + uptoBulkAll spare + 1
  | .agg parts => uptoBulkAll parts + 1
  | .iface _ d => uptoBulk d + 1
  | .map entries => uptoBulkEntries entries + 1
  | .held _ => 1
def uptoBulkAll {H : Type} : List (DataW H) → Nat
  | [] => 0
  | d :: r => uptoBulk d + uptoBulkAll r
def uptoBulkEntries {H : Type} : List (Lit × DataW H) → Nat
  | [] => 0
  | x :: r => uptoBulkEntry x + uptoBulkEntries r
def uptoBulkEntry {H : Type} : Lit × DataW H → Nat
  | (.string bytes, d) => bytes.length + uptoBulk d + 1
  | (_, d) => uptoBulk d + 1
 end
def uptoSmall : (H : Type) → List (DataW H) → Bool := fun _ ds => decide (uptoBulkAll ds ≤ 1048576)
def OpenSpec.upto (s : _root_.Go.ChangeSpec) : _root_.Go.OpenSpec := { _root_.Go.OpenSpec.ofChange s with cond := some uptoSmall }

/-- 'tollbarlaw13.PackTells', WHERE WHAT IT READS IS OF BULK AT MOST 1048576: true; the input reads as it did. -/
def packTellsUptoRow : OpenClaim := { program := "ytodlhgflfcadmaagreat", sum := "c28be58b4047419b8ff962bda14848ef85c131bb19a0f6a9de7e8934f44a699a", func := "tollbar/tollbarlaw13.PackTells", spec := "packTells", inPlace := ["slices.overlaps[tollbar/spec.Spec]", "internal/bytealg.abigen_runtime_cmpstring", "slices.overlaps[tollbar/api.Step]"], unfollowed := true, recurses := true, loops := true, apart := false, narrowed := true }
def PackTellsUptoSaid : Prop := packTellsUptoRow.holds Tryz.pinned (OpenSpec.upto packTellsSpec)

/-- 'tollbarlaw13.PackApart', WHERE WHAT IT READS IS OF BULK AT MOST 1048576: true; the input reads as it did. -/
def packApartUptoRow : OpenClaim := { program := "ytodlhgflfcadmaagreat", sum := "c28be58b4047419b8ff962bda14848ef85c131bb19a0f6a9de7e8934f44a699a", func := "tollbar/tollbarlaw13.PackApart", spec := "packApart", inPlace := ["slices.overlaps[tollbar/spec.Spec]", "internal/bytealg.abigen_runtime_cmpstring", "slices.overlaps[tollbar/api.Step]"], unfollowed := true, recurses := true, loops := true, apart := false, narrowed := true }
def PackApartUptoSaid : Prop := packApartUptoRow.holds Tryz.pinned (OpenSpec.upto packApartSpec)

/-- 'tollbarlaw13.PackRises', WHERE WHAT IT READS IS OF BULK AT MOST 1048576: true; the input reads as it did. -/
def packRisesUptoRow : OpenClaim := { program := "ytodlhgflfcadmaagreat", sum := "c28be58b4047419b8ff962bda14848ef85c131bb19a0f6a9de7e8934f44a699a", func := "tollbar/tollbarlaw13.PackRises", spec := "packRises", inPlace := ["slices.overlaps[tollbar/spec.Spec]", "internal/bytealg.abigen_runtime_cmpstring", "slices.overlaps[tollbar/api.Step]"], unfollowed := true, recurses := true, loops := true, apart := false, narrowed := true }
def PackRisesUptoSaid : Prop := packRisesUptoRow.holds Tryz.pinned (OpenSpec.upto packRisesSpec)

/-- 'tollbarlaw13.PackParts', WHERE WHAT IT READS IS OF BULK AT MOST 1048576: true; the input reads as it did. -/
def packPartsUptoRow : OpenClaim := { program := "ytodlhgflfcadmaagreat", sum := "c28be58b4047419b8ff962bda14848ef85c131bb19a0f6a9de7e8934f44a699a", func := "tollbar/tollbarlaw13.PackParts", spec := "packParts", inPlace := ["slices.overlaps[tollbar/spec.Spec]", "internal/bytealg.abigen_runtime_cmpstring", "slices.overlaps[tollbar/api.Step]"], unfollowed := true, recurses := true, loops := true, apart := false, narrowed := true }
def PackPartsUptoSaid : Prop := packPartsUptoRow.holds Tryz.pinned (OpenSpec.upto packPartsSpec)

end Rows
end Go.Proofs.YtodlhgflfcadmaaGreat
