/-
  What the document's answers for layer 1 compute, the rest: Value of at most eight bytes, Num and Sub. No condition but those of each theorem.
-/
import Derived.Test.YtkpbjgjflabloaaOctRef
namespace Go.Proofs.Ytkpbjgjflabloaa
open Go.RowKit

/-- How many bytes a text has. -/
def lenOf' : Value → Nat | .string b => b.size | _ => 0

theorem txt_get (l : List UInt8) (k : Nat) (h : k < l.length) (h' : k < (txt l).size) : (txt l)[k]'h' = l[k]'h := by
  show (txt l).data[k]'h' = l[k]
  simp [txt]
  rfl
theorem valB_zero_cons {b : UInt8} (l : List UInt8) (h : b.toNat = 0) : valB (b :: l) = valB l := by rw [valB_cons, h]; omega

end Go.Proofs.Ytkpbjgjflabloaa
