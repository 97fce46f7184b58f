/-
  NARROWER THAN 'FOR EVERY INPUT', by the rows' own cells (each row's printed sentence says how): ValidTells: loops · ValidLess: loops · ValidClasses: loops.
  DERIVED. THE GIVEN ROWS OF THIS SEAT. 3 by the template 'for every input the law returns true; each argument reads behind the call as it read before'; 0 by the template 'total and deterministic' (their statements: YtljjaikejfoanaaGreatTotals.lean).
  GIVEN WITH THE SEED: the statements are not yours to turn. If you find one false, say at which input.
  Laid BY PROGRAM, IN A SANDBOX (cutbox-rows.mjs): the forced cells as the released guide's own fill.sh prints them over the translation d998b7dcccce8ea1… (all of the seat's roots in one cut). By AI agents, Wed Nov 11 2026. No macro, syntax, notation, axiom, sorry.
-/
import Derived.Test.YtljjaikejfoanaaGreatChecked
import GoSem.Claim
import GoSem.ClaimJoined
import GoSem.ClaimMapViews
import Derived.JoinedTies
import Derived.KernelRfl
namespace Go.Proofs.YtljjaikejfoanaaGreat
/- THE CELL 'sum', in the pinned program and in every row, IS THE sha256 OF THE DUMP (.gsa) THAT YtljjaikejfoanaaGreatProg.lean LOADS. Nothing in Lean hashes anything: it is a label: what it is worth is what the hold of that sum in a sandbox is worth. -/
noncomputable def Tryz.pinned : Pinned := { name := "ytljjaikejfoanaagreat", sum := "d998b7dcccce8ea17c51487b38a1c9a97a137fd0e2db39a3ccc186f55c31d485", checked := Tryz.checked }
namespace Rows
def none {H : Type} : Left H := { results := [], args := [] }

/-- 'tollbarlaw10.ValidTells': WHATEVER THE INPUT: true; the input reads as it did. -/
def validTellsSpec : ChangeSpec := { name := "validTells", fn := fun _ => fun
  | [d1, d2] => { results := [.lit (.bool true)], args := [d1, d2] }
  | _ => none }
def validTellsRow : OpenClaim := { program := "ytljjaikejfoanaagreat", sum := "d998b7dcccce8ea17c51487b38a1c9a97a137fd0e2db39a3ccc186f55c31d485", func := "tollbar/tollbarlaw10.ValidTells", spec := "validTells", inPlace := ["slices.overlaps[tollbar/spec.Spec]", "internal/bytealg.abigen_runtime_cmpstring", "slices.overlaps[tollbar/api.Step]"], unfollowed := true, recurses := true, loops := true, apart := false }
def ValidTellsSaid : Prop := validTellsRow.holds Tryz.pinned (OpenSpec.ofChange validTellsSpec)

/-- ITS FALSE NEIGHBOUR: 'it returns false'. Refute it at one input. -/
def validTellsWrong : ChangeSpec := { name := "validTells", fn := fun _ => fun
  | [d1, d2] => { results := [.lit (.bool false)], args := [d1, d2] }
  | _ => none }
def ValidTellsWrongFalsely : Prop := validTellsRow.holds Tryz.pinned (OpenSpec.ofChange validTellsWrong)

/-- 'tollbarlaw10.ValidLess': WHATEVER THE INPUT: true; the input reads as it did. -/
def validLessSpec : ChangeSpec := { name := "validLess", fn := fun _ => fun
  | [d1, d2, d3] => { results := [.lit (.bool true)], args := [d1, d2, d3] }
  | _ => none }
def validLessRow : OpenClaim := { program := "ytljjaikejfoanaagreat", sum := "d998b7dcccce8ea17c51487b38a1c9a97a137fd0e2db39a3ccc186f55c31d485", func := "tollbar/tollbarlaw10.ValidLess", spec := "validLess", inPlace := ["slices.overlaps[tollbar/spec.Spec]", "internal/bytealg.abigen_runtime_cmpstring", "slices.overlaps[tollbar/api.Step]"], unfollowed := true, recurses := true, loops := true, apart := false }
def ValidLessSaid : Prop := validLessRow.holds Tryz.pinned (OpenSpec.ofChange validLessSpec)

/-- ITS FALSE NEIGHBOUR: 'it returns false'. Refute it at one input. -/
def validLessWrong : ChangeSpec := { name := "validLess", fn := fun _ => fun
  | [d1, d2, d3] => { results := [.lit (.bool false)], args := [d1, d2, d3] }
  | _ => none }
def ValidLessWrongFalsely : Prop := validLessRow.holds Tryz.pinned (OpenSpec.ofChange validLessWrong)

/-- 'tollbarlaw10.ValidClasses': WHATEVER THE INPUT: true; the input reads as it did. -/
def validClassesSpec : ChangeSpec := { name := "validClasses", fn := fun _ => fun
  | [d1, d2, d3] => { results := [.lit (.bool true)], args := [d1, d2, d3] }
  | _ => none }
def validClassesRow : OpenClaim := { program := "ytljjaikejfoanaagreat", sum := "d998b7dcccce8ea17c51487b38a1c9a97a137fd0e2db39a3ccc186f55c31d485", func := "tollbar/tollbarlaw10.ValidClasses", spec := "validClasses", inPlace := ["slices.overlaps[tollbar/spec.Spec]", "internal/bytealg.abigen_runtime_cmpstring", "slices.overlaps[tollbar/api.Step]"], unfollowed := true, recurses := true, loops := true, apart := false }
def ValidClassesSaid : Prop := validClassesRow.holds Tryz.pinned (OpenSpec.ofChange validClassesSpec)

/-- ITS FALSE NEIGHBOUR: 'it returns false'. Refute it at one input. -/
def validClassesWrong : ChangeSpec := { name := "validClasses", fn := fun _ => fun
  | [d1, d2, d3] => { results := [.lit (.bool false)], args := [d1, d2, d3] }
  | _ => none }
def ValidClassesWrongFalsely : Prop := validClassesRow.holds Tryz.pinned (OpenSpec.ofChange validClassesWrong)

/- THE SECOND FORM. 'bulk': how many values and letters a reading holds, each counted each time it is reached (what is shared counts as often as it is met; a slice's spare places count too). A statement '..UptoSaid' is the law's where the arguments, and the package variables that the reading takes, are together of bulk at most 1048576: NARROWER than '..Said'. Prove '..Said' where nothing that the law and all that it calls make is longer than what came in: it says more and counts as full. Else prove '..UptoSaid'. A law counts once. -/
mutual
def uptoBulk {H : Type} : DataW H → Nat
  | .lit (.string bytes) => bytes.length + 1
  | .lit _ => 1
  | .nil => 1
  | .ptr d => uptoBulk d + 1
  | .slice elems spare => uptoBulkAll elems + uptoBulkAll spare + 1
  | .agg parts => uptoBulkAll parts + 1
  | .iface _ d => uptoBulk d + 1
  | .map entries => uptoBulkEntries entries + 1
  | .held _ => 1
def uptoBulkAll {H : Type} : List (DataW H) → Nat
  | [] => 0
  | d :: r => uptoBulk d + uptoBulkAll r
def uptoBulkEntries {H : Type} : List (Lit × DataW H) → Nat
  | [] => 0
  | x :: r => uptoBulkEntry x + uptoBulkEntries r
def uptoBulkEntry {H : Type} : Lit × DataW H → Nat
  | (.string bytes, d) => bytes.length + uptoBulk d + 1
  | (_, d) => uptoBulk d + 1
 end
def uptoSmall : (H : Type) → List (DataW H) → Bool := fun _ ds => decide (uptoBulkAll ds ≤ 1048576)
def OpenSpec.upto (s : _root_.Go.ChangeSpec) : _root_.Go.OpenSpec := { _root_.Go.OpenSpec.ofChange s with cond := some uptoSmall }

/-- 'tollbarlaw10.ValidTells', WHERE WHAT IT READS IS OF BULK AT MOST 1048576: true; the input reads as it did. -/
def validTellsUptoRow : OpenClaim := { program := "ytljjaikejfoanaagreat", sum := "d998b7dcccce8ea17c51487b38a1c9a97a137fd0e2db39a3ccc186f55c31d485", func := "tollbar/tollbarlaw10.ValidTells", spec := "validTells", inPlace := ["slices.overlaps[tollbar/spec.Spec]", "internal/bytealg.abigen_runtime_cmpstring", "slices.overlaps[tollbar/api.Step]"], unfollowed := true, recurses := true, loops := true, apart := false, narrowed := true }
def ValidTellsUptoSaid : Prop := validTellsUptoRow.holds Tryz.pinned (OpenSpec.upto validTellsSpec)

/-- 'tollbarlaw10.ValidLess', WHERE WHAT IT READS IS OF BULK AT MOST 1048576: true; the input reads as it did. -/
def validLessUptoRow : OpenClaim := { program := "ytljjaikejfoanaagreat", sum := "d998b7dcccce8ea17c51487b38a1c9a97a137fd0e2db39a3ccc186f55c31d485", func := "tollbar/tollbarlaw10.ValidLess", spec := "validLess", inPlace := ["slices.overlaps[tollbar/spec.Spec]", "internal/bytealg.abigen_runtime_cmpstring", "slices.overlaps[tollbar/api.Step]"], unfollowed := true, recurses := true, loops := true, apart := false, narrowed := true }
def ValidLessUptoSaid : Prop := validLessUptoRow.holds Tryz.pinned (OpenSpec.upto validLessSpec)

/-- 'tollbarlaw10.ValidClasses', WHERE WHAT IT READS IS OF BULK AT MOST 1048576: true; the input reads as it did. -/
def validClassesUptoRow : OpenClaim := { program := "ytljjaikejfoanaagreat", sum := "d998b7dcccce8ea17c51487b38a1c9a97a137fd0e2db39a3ccc186f55c31d485", func := "tollbar/tollbarlaw10.ValidClasses", spec := "validClasses", inPlace := ["slices.overlaps[tollbar/spec.Spec]", "internal/bytealg.abigen_runtime_cmpstring", "slices.overlaps[tollbar/api.Step]"], unfollowed := true, recurses := true, loops := true, apart := false, narrowed := true }
def ValidClassesUptoSaid : Prop := validClassesUptoRow.holds Tryz.pinned (OpenSpec.upto validClassesSpec)

end Rows
end Go.Proofs.YtljjaikejfoanaaGreat
