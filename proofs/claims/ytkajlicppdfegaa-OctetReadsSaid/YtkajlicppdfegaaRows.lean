/-
  No cell of these rows narrows 'for every input' (looked for: loops, veiled, ifaces, maps, wideKeys, modest, calm, conditions, laid).
  DERIVED. THE GIVEN ROWS OF THIS SEAT. 4 by the template 'for every input the law returns true; each argument reads behind the call as it read before'; 0 by the template 'total and deterministic' (their statements: YtkajlicppdfegaaTotals.lean).
  GIVEN WITH THE SEED: the statements are not yours to turn. If you find one false, say at which input.
  Laid BY PROGRAM, IN A SANDBOX (cutbox-rows.mjs): the forced cells as the released guide's own fill.sh prints them over the translation dc60130c3e423b3d… (all of the seat's roots in one cut). By AI agents, Wed Nov 11 2026. No macro, syntax, notation, axiom, sorry.
-/
import Derived.Test.YtkajlicppdfegaaChecked
import GoSem.Claim
import GoSem.ClaimJoined
import GoSem.ClaimMapViews
import Derived.JoinedTies
import Derived.KernelRfl
namespace Go.Proofs.Ytkajlicppdfegaa
/- THE CELL 'sum', in the pinned program and in every row, IS THE sha256 OF THE DUMP (.gsa) THAT YtkajlicppdfegaaProg.lean LOADS. Nothing in Lean hashes anything: it is a label: what it is worth is what the hold of that sum in a sandbox is worth. -/
noncomputable def Try.pinned : Pinned := { name := "ytkajlicppdfegaa", sum := "dc60130c3e423b3dc253407871e0a05d0695d47eb72eecf33771ae36c44ffb08", checked := Try.checked }
namespace Rows
def none {H : Type} : Left H := { results := [], args := [] }

/-- 'tollbarlaw01.OctetReads': WHATEVER THE INPUT: true; the input reads as it did. -/
def octetReadsSpec : ChangeSpec := { name := "octetReads", fn := fun _ => fun
  | [d1, d2] => { results := [.lit (.bool true)], args := [d1, d2] }
  | _ => none }
def octetReadsRow : OpenClaim := { program := "ytkajlicppdfegaa", sum := "dc60130c3e423b3dc253407871e0a05d0695d47eb72eecf33771ae36c44ffb08", func := "tollbar/tollbarlaw01.OctetReads", spec := "octetReads", apart := false }
def OctetReadsSaid : Prop := octetReadsRow.holds Try.pinned (OpenSpec.ofChange octetReadsSpec)

/-- ITS FALSE NEIGHBOUR: 'it returns false'. Refute it at one input. -/
def octetReadsWrong : ChangeSpec := { name := "octetReads", fn := fun _ => fun
  | [d1, d2] => { results := [.lit (.bool false)], args := [d1, d2] }
  | _ => none }
def OctetReadsWrongFalsely : Prop := octetReadsRow.holds Try.pinned (OpenSpec.ofChange octetReadsWrong)

/-- 'tollbarlaw01.OctetBack': WHATEVER THE INPUT: true; the input reads as it did. -/
def octetBackSpec : ChangeSpec := { name := "octetBack", fn := fun _ => fun
  | [d1, d2] => { results := [.lit (.bool true)], args := [d1, d2] }
  | _ => none }
def octetBackRow : OpenClaim := { program := "ytkajlicppdfegaa", sum := "dc60130c3e423b3dc253407871e0a05d0695d47eb72eecf33771ae36c44ffb08", func := "tollbar/tollbarlaw01.OctetBack", spec := "octetBack", apart := false }
def OctetBackSaid : Prop := octetBackRow.holds Try.pinned (OpenSpec.ofChange octetBackSpec)

/-- ITS FALSE NEIGHBOUR: 'it returns false'. Refute it at one input. -/
def octetBackWrong : ChangeSpec := { name := "octetBack", fn := fun _ => fun
  | [d1, d2] => { results := [.lit (.bool false)], args := [d1, d2] }
  | _ => none }
def OctetBackWrongFalsely : Prop := octetBackRow.holds Try.pinned (OpenSpec.ofChange octetBackWrong)

/-- 'tollbarlaw01.OctetLeast': WHATEVER THE INPUT: true; the input reads as it did. -/
def octetLeastSpec : ChangeSpec := { name := "octetLeast", fn := fun _ => fun
  | [d1, d2] => { results := [.lit (.bool true)], args := [d1, d2] }
  | _ => none }
def octetLeastRow : OpenClaim := { program := "ytkajlicppdfegaa", sum := "dc60130c3e423b3dc253407871e0a05d0695d47eb72eecf33771ae36c44ffb08", func := "tollbar/tollbarlaw01.OctetLeast", spec := "octetLeast", apart := false }
def OctetLeastSaid : Prop := octetLeastRow.holds Try.pinned (OpenSpec.ofChange octetLeastSpec)

/-- ITS FALSE NEIGHBOUR: 'it returns false'. Refute it at one input. -/
def octetLeastWrong : ChangeSpec := { name := "octetLeast", fn := fun _ => fun
  | [d1, d2] => { results := [.lit (.bool false)], args := [d1, d2] }
  | _ => none }
def OctetLeastWrongFalsely : Prop := octetLeastRow.holds Try.pinned (OpenSpec.ofChange octetLeastWrong)

/-- 'tollbarlaw01.OctetWindows': WHATEVER THE INPUT: true; the input reads as it did. -/
def octetWindowsSpec : ChangeSpec := { name := "octetWindows", fn := fun _ => fun
  | [d1, d2, d3] => { results := [.lit (.bool true)], args := [d1, d2, d3] }
  | _ => none }
def octetWindowsRow : OpenClaim := { program := "ytkajlicppdfegaa", sum := "dc60130c3e423b3dc253407871e0a05d0695d47eb72eecf33771ae36c44ffb08", func := "tollbar/tollbarlaw01.OctetWindows", spec := "octetWindows", apart := false }
def OctetWindowsSaid : Prop := octetWindowsRow.holds Try.pinned (OpenSpec.ofChange octetWindowsSpec)

/-- ITS FALSE NEIGHBOUR: 'it returns false'. Refute it at one input. -/
def octetWindowsWrong : ChangeSpec := { name := "octetWindows", fn := fun _ => fun
  | [d1, d2, d3] => { results := [.lit (.bool false)], args := [d1, d2, d3] }
  | _ => none }
def OctetWindowsWrongFalsely : Prop := octetWindowsRow.holds Try.pinned (OpenSpec.ofChange octetWindowsWrong)

/- THE SECOND FORM. 'bulk': how many values and letters a reading holds, each counted each time it is reached (what is shared counts as often as it is met; a slice's spare places count too). A statement '..UptoSaid' is the law's where the arguments, and the package variables that the reading takes, are together of bulk at most 1048576: NARROWER than '..Said'. Prove '..Said' where nothing that the law and all that it calls make is longer than what came in: it says more and counts as full. Else prove '..UptoSaid'. A law counts once. -/
mutual
def uptoBulk {H : Type} : DataW H → Nat
  | .lit (.string bytes) => bytes.length + 1
  | .lit _ => 1
  | .nil => 1
  | .ptr d => uptoBulk d + 1
  | .slice elems spare => uptoBulkAll elems + uptoBulkAll spare + 1
  | .agg parts => uptoBulkAll parts + 1
  | .iface _ d => uptoBulk d + 1
  | .map entries => uptoBulkEntries entries + 1
  | .held _ => 1
def uptoBulkAll {H : Type} : List (DataW H) → Nat
  | [] => 0
  | d :: r => uptoBulk d + uptoBulkAll r
def uptoBulkEntries {H : Type} : List (Lit × DataW H) → Nat
  | [] => 0
  | x :: r => uptoBulkEntry x + uptoBulkEntries r
def uptoBulkEntry {H : Type} : Lit × DataW H → Nat
  | (.string bytes, d) => bytes.length + uptoBulk d + 1
  | (_, d) => uptoBulk d + 1
 end
def uptoSmall : (H : Type) → List (DataW H) → Bool := fun _ ds => decide (uptoBulkAll ds ≤ 1048576)
def OpenSpec.upto (s : _root_.Go.ChangeSpec) : _root_.Go.OpenSpec := { _root_.Go.OpenSpec.ofChange s with cond := some uptoSmall }

/-- 'tollbarlaw01.OctetReads', WHERE WHAT IT READS IS OF BULK AT MOST 1048576: true; the input reads as it did. -/
def octetReadsUptoRow : OpenClaim := { program := "ytkajlicppdfegaa", sum := "dc60130c3e423b3dc253407871e0a05d0695d47eb72eecf33771ae36c44ffb08", func := "tollbar/tollbarlaw01.OctetReads", spec := "octetReads", apart := false, narrowed := true }
def OctetReadsUptoSaid : Prop := octetReadsUptoRow.holds Try.pinned (OpenSpec.upto octetReadsSpec)

/-- 'tollbarlaw01.OctetBack', WHERE WHAT IT READS IS OF BULK AT MOST 1048576: true; the input reads as it did. -/
def octetBackUptoRow : OpenClaim := { program := "ytkajlicppdfegaa", sum := "dc60130c3e423b3dc253407871e0a05d0695d47eb72eecf33771ae36c44ffb08", func := "tollbar/tollbarlaw01.OctetBack", spec := "octetBack", apart := false, narrowed := true }
def OctetBackUptoSaid : Prop := octetBackUptoRow.holds Try.pinned (OpenSpec.upto octetBackSpec)

/-- 'tollbarlaw01.OctetLeast', WHERE WHAT IT READS IS OF BULK AT MOST 1048576: true; the input reads as it did. -/
def octetLeastUptoRow : OpenClaim := { program := "ytkajlicppdfegaa", sum := "dc60130c3e423b3dc253407871e0a05d0695d47eb72eecf33771ae36c44ffb08", func := "tollbar/tollbarlaw01.OctetLeast", spec := "octetLeast", apart := false, narrowed := true }
def OctetLeastUptoSaid : Prop := octetLeastUptoRow.holds Try.pinned (OpenSpec.upto octetLeastSpec)

/-- 'tollbarlaw01.OctetWindows', WHERE WHAT IT READS IS OF BULK AT MOST 1048576: true; the input reads as it did. -/
def octetWindowsUptoRow : OpenClaim := { program := "ytkajlicppdfegaa", sum := "dc60130c3e423b3dc253407871e0a05d0695d47eb72eecf33771ae36c44ffb08", func := "tollbar/tollbarlaw01.OctetWindows", spec := "octetWindows", apart := false, narrowed := true }
def OctetWindowsUptoSaid : Prop := octetWindowsUptoRow.holds Try.pinned (OpenSpec.upto octetWindowsSpec)

end Rows
end Go.Proofs.Ytkajlicppdfegaa
