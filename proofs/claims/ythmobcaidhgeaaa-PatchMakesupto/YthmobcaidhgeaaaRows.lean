/-
  NARROWER THAN 'FOR EVERY INPUT', by the rows' own cells (each row's printed sentence says how): PatchTells: loops · PatchMakes: loops · PatchFronts: loops · PatchOnce: loops.
  DERIVED. THE GIVEN ROWS OF THIS SEAT. 4 by the template 'for every input the law returns true; each argument reads behind the call as it read before'; 0 by the template 'total and deterministic' (their statements: YthmobcaidhgeaaaTotals.lean).
  GIVEN WITH THE SEED: the statements are not yours to turn. If you find one false, say at which input.
  Laid BY PROGRAM, IN A SANDBOX (cutbox-rows.mjs): the forced cells as the released guide's own fill.sh prints them over the translation d6f46876acdb7c32… (all of the seat's roots in one cut). By AI agents, Wed Nov 11 2026. No macro, syntax, notation, axiom, sorry.
-/
import Derived.Test.YthmobcaidhgeaaaChecked
import GoSem.Claim
import GoSem.ClaimJoined
import GoSem.ClaimMapViews
import Derived.JoinedTies
import Derived.KernelRfl
namespace Go.Proofs.Ythmobcaidhgeaaa
/- THE CELL 'sum', in the pinned program and in every row, IS THE sha256 OF THE DUMP (.gsa) THAT YthmobcaidhgeaaaProg.lean LOADS. Nothing in Lean hashes anything: it is a label: what it is worth is what the hold of that sum in a sandbox is worth. -/
noncomputable def Try.pinned : Pinned := { name := "ythmobcaidhgeaaa", sum := "d6f46876acdb7c32a44ca25c1f0a7bbadaf0520fc0cb924ea9d077a0bdd79b02", checked := Try.checked }
namespace Rows
def none {H : Type} : Left H := { results := [], args := [] }

/-- 'tollbarlaw17.PatchTells': WHATEVER THE INPUT: true; the input reads as it did. -/
def patchTellsSpec : ChangeSpec := { name := "patchTells", fn := fun _ => fun
  | [d1, d2] => { results := [.lit (.bool true)], args := [d1, d2] }
  | _ => none }
def patchTellsRow : OpenClaim := { program := "ythmobcaidhgeaaa", sum := "d6f46876acdb7c32a44ca25c1f0a7bbadaf0520fc0cb924ea9d077a0bdd79b02", func := "tollbar/tollbarlaw17.PatchTells", spec := "patchTells", inPlace := ["internal/bytealg.abigen_runtime_cmpstring", "slices.overlaps[tollbar/api.Node]"], unfollowed := true, recurses := true, loops := true, apart := false }
def PatchTellsSaid : Prop := patchTellsRow.holds Try.pinned (OpenSpec.ofChange patchTellsSpec)

/-- ITS FALSE NEIGHBOUR: 'it returns false'. Refute it at one input. -/
def patchTellsWrong : ChangeSpec := { name := "patchTells", fn := fun _ => fun
  | [d1, d2] => { results := [.lit (.bool false)], args := [d1, d2] }
  | _ => none }
def PatchTellsWrongFalsely : Prop := patchTellsRow.holds Try.pinned (OpenSpec.ofChange patchTellsWrong)

/-- 'tollbarlaw17.PatchMakes': WHATEVER THE INPUT: true; the input reads as it did. -/
def patchMakesSpec : ChangeSpec := { name := "patchMakes", fn := fun _ => fun
  | [d1, d2] => { results := [.lit (.bool true)], args := [d1, d2] }
  | _ => none }
def patchMakesRow : OpenClaim := { program := "ythmobcaidhgeaaa", sum := "d6f46876acdb7c32a44ca25c1f0a7bbadaf0520fc0cb924ea9d077a0bdd79b02", func := "tollbar/tollbarlaw17.PatchMakes", spec := "patchMakes", inPlace := ["internal/bytealg.abigen_runtime_cmpstring", "slices.overlaps[tollbar/api.Node]"], unfollowed := true, recurses := true, loops := true, apart := false }
def PatchMakesSaid : Prop := patchMakesRow.holds Try.pinned (OpenSpec.ofChange patchMakesSpec)

/-- ITS FALSE NEIGHBOUR: 'it returns false'. Refute it at one input. -/
def patchMakesWrong : ChangeSpec := { name := "patchMakes", fn := fun _ => fun
  | [d1, d2] => { results := [.lit (.bool false)], args := [d1, d2] }
  | _ => none }
def PatchMakesWrongFalsely : Prop := patchMakesRow.holds Try.pinned (OpenSpec.ofChange patchMakesWrong)

/-- 'tollbarlaw17.PatchFronts': WHATEVER THE INPUT: true; the input reads as it did. -/
def patchFrontsSpec : ChangeSpec := { name := "patchFronts", fn := fun _ => fun
  | [d1, d2, d3] => { results := [.lit (.bool true)], args := [d1, d2, d3] }
  | _ => none }
def patchFrontsRow : OpenClaim := { program := "ythmobcaidhgeaaa", sum := "d6f46876acdb7c32a44ca25c1f0a7bbadaf0520fc0cb924ea9d077a0bdd79b02", func := "tollbar/tollbarlaw17.PatchFronts", spec := "patchFronts", inPlace := ["internal/bytealg.abigen_runtime_cmpstring", "slices.overlaps[tollbar/api.Node]"], unfollowed := true, recurses := true, loops := true, apart := false }
def PatchFrontsSaid : Prop := patchFrontsRow.holds Try.pinned (OpenSpec.ofChange patchFrontsSpec)

/-- ITS FALSE NEIGHBOUR: 'it returns false'. Refute it at one input. -/
def patchFrontsWrong : ChangeSpec := { name := "patchFronts", fn := fun _ => fun
  | [d1, d2, d3] => { results := [.lit (.bool false)], args := [d1, d2, d3] }
  | _ => none }
def PatchFrontsWrongFalsely : Prop := patchFrontsRow.holds Try.pinned (OpenSpec.ofChange patchFrontsWrong)

/-- 'tollbarlaw17.PatchOnce': WHATEVER THE INPUT: true; the input reads as it did. -/
def patchOnceSpec : ChangeSpec := { name := "patchOnce", fn := fun _ => fun
  | [d1, d2] => { results := [.lit (.bool true)], args := [d1, d2] }
  | _ => none }
def patchOnceRow : OpenClaim := { program := "ythmobcaidhgeaaa", sum := "d6f46876acdb7c32a44ca25c1f0a7bbadaf0520fc0cb924ea9d077a0bdd79b02", func := "tollbar/tollbarlaw17.PatchOnce", spec := "patchOnce", inPlace := ["internal/bytealg.abigen_runtime_cmpstring", "slices.overlaps[tollbar/api.Node]"], unfollowed := true, recurses := true, loops := true, apart := false }
def PatchOnceSaid : Prop := patchOnceRow.holds Try.pinned (OpenSpec.ofChange patchOnceSpec)

/-- ITS FALSE NEIGHBOUR: 'it returns false'. Refute it at one input. -/
def patchOnceWrong : ChangeSpec := { name := "patchOnce", fn := fun _ => fun
  | [d1, d2] => { results := [.lit (.bool false)], args := [d1, d2] }
  | _ => none }
def PatchOnceWrongFalsely : Prop := patchOnceRow.holds Try.pinned (OpenSpec.ofChange patchOnceWrong)

/- THE SECOND FORM. 'bulk': how many values and letters a reading holds, each counted each time it is reached (what is shared counts as often as it is met; a slice's spare places count too). A statement '..UptoSaid' is the law's where the arguments, and the package variables that the reading takes, are together of bulk at most 1048576: NARROWER than '..Said'. Prove '..Said' where nothing that the law and all that it calls make is longer than what came in: it says more and counts as full. Else prove '..UptoSaid'. A law counts once. -/
mutual
def uptoBulk {H : Type} : DataW H → Nat
  | .lit (.string bytes) => bytes.length + 1
  | .lit _ => 1
  | .nil => 1
  | .ptr d => uptoBulk d + 1
  | .slice elems spare => uptoBulkAll elems + uptoBulkAll spare + 1
  | .agg parts => uptoBulkAll parts + 1
  | .iface _ d => uptoBulk d + 1
  | .map entries => uptoBulkEntries entries + 1
  | .held _ => 1
def uptoBulkAll {H : Type} : List (DataW H) → Nat
  | [] => 0
  | d :: r => uptoBulk d + uptoBulkAll r
def uptoBulkEntries {H : Type} : List (Lit × DataW H) → Nat
  | [] => 0
  | x :: r => uptoBulkEntry x + uptoBulkEntries r
def uptoBulkEntry {H : Type} : Lit × DataW H → Nat
  | (.string bytes, d) => bytes.length + uptoBulk d + 1
  | (_, d) => uptoBulk d + 1
 end
def uptoSmall : (H : Type) → List (DataW H) → Bool := fun _ ds => decide (uptoBulkAll ds ≤ 1048576)
def OpenSpec.upto (s : _root_.Go.ChangeSpec) : _root_.Go.OpenSpec := { _root_.Go.OpenSpec.ofChange s with cond := some uptoSmall }

/-- 'tollbarlaw17.PatchTells', WHERE WHAT IT READS IS OF BULK AT MOST 1048576: true; the input reads as it did. -/
def patchTellsUptoRow : OpenClaim := { program := "ythmobcaidhgeaaa", sum := "d6f46876acdb7c32a44ca25c1f0a7bbadaf0520fc0cb924ea9d077a0bdd79b02", func := "tollbar/tollbarlaw17.PatchTells", spec := "patchTells", inPlace := ["internal/bytealg.abigen_runtime_cmpstring", "slices.overlaps[tollbar/api.Node]"], unfollowed := true, recurses := true, loops := true, apart := false, narrowed := true }
def PatchTellsUptoSaid : Prop := patchTellsUptoRow.holds Try.pinned (OpenSpec.upto patchTellsSpec)

/-- 'tollbarlaw17.PatchMakes', WHERE WHAT IT READS IS OF BULK AT MOST 1048576: true; the input reads as it did. -/
def patchMakesUptoRow : OpenClaim := { program := "ythmobcaidhgeaaa", sum := "d6f46876acdb7c32a44ca25c1f0a7bbadaf0520fc0cb924ea9d077a0bdd79b02", func := "tollbar/tollbarlaw17.PatchMakes", spec := "patchMakes", inPlace := ["internal/bytealg.abigen_runtime_cmpstring", "slices.overlaps[tollbar/api.Node]"], unfollowed := true, recurses := true, loops := true, apart := false, narrowed := true }
def PatchMakesUptoSaid : Prop := patchMakesUptoRow.holds Try.pinned (OpenSpec.upto patchMakesSpec)

/-- 'tollbarlaw17.PatchFronts', WHERE WHAT IT READS IS OF BULK AT MOST 1048576: true; the input reads as it did. -/
def patchFrontsUptoRow : OpenClaim := { program := "ythmobcaidhgeaaa", sum := "d6f46876acdb7c32a44ca25c1f0a7bbadaf0520fc0cb924ea9d077a0bdd79b02", func := "tollbar/tollbarlaw17.PatchFronts", spec := "patchFronts", inPlace := ["internal/bytealg.abigen_runtime_cmpstring", "slices.overlaps[tollbar/api.Node]"], unfollowed := true, recurses := true, loops := true, apart := false, narrowed := true }
def PatchFrontsUptoSaid : Prop := patchFrontsUptoRow.holds Try.pinned (OpenSpec.upto patchFrontsSpec)

/-- 'tollbarlaw17.PatchOnce', WHERE WHAT IT READS IS OF BULK AT MOST 1048576: true; the input reads as it did. -/
def patchOnceUptoRow : OpenClaim := { program := "ythmobcaidhgeaaa", sum := "d6f46876acdb7c32a44ca25c1f0a7bbadaf0520fc0cb924ea9d077a0bdd79b02", func := "tollbar/tollbarlaw17.PatchOnce", spec := "patchOnce", inPlace := ["internal/bytealg.abigen_runtime_cmpstring", "slices.overlaps[tollbar/api.Node]"], unfollowed := true, recurses := true, loops := true, apart := false, narrowed := true }
def PatchOnceUptoSaid : Prop := patchOnceUptoRow.holds Try.pinned (OpenSpec.upto patchOnceSpec)

end Rows
end Go.Proofs.Ythmobcaidhgeaaa
