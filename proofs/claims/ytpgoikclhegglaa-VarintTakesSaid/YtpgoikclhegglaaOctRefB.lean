/-
  What the document's answers for layer 1 compute, the rest: Value of at most eight bytes, Num and Sub. No condition but those of each theorem.
-/
import Derived.Test.YtpgoikclhegglaaOctRef
namespace Go.Proofs.Ytpgoikclhegglaa
open Go.RowKit

/-- How many bytes a text has. -/
def lenOf' : Value → Nat | .string b => b.size | _ => 0

theorem txt_get (l : List UInt8) (k : Nat) (h : k < l.length) (h' : k < (txt l).size) : (txt l)[k]'h' = l[k]'h := by
  show (txt l).data[k]'h' = l[k]
  simp [txt]
  rfl
theorem valB_zero_cons {b : UInt8} (l : List UInt8) (h : b.toNat = 0) : valB (b :: l) = valB l := by rw [valB_cons, h]; omega

def RNumPost (g : Nat) (s : List UInt8) (e n : Int) (w : World) (r : Ending) (w' : World) : Prop :=
  r = .returned (.int .u64 ((nm s e n).1 : Int)) ∧ RW w' g (nm s e n).2.1 (nm s e n).2.2 ∧ w.grownBy w' (some g) ∧ Sz w' w.heap.size

def RSubPost (g : Nat) (s : List UInt8) (e n : Int) (w : World) (r : Ending) (w' : World) : Prop :=
  r = .returned (.pointer (some ⟨w.heap.size, 0, none⟩)) ∧ RW w' w.heap.size (nx s e n).1 (nx s e n).2.2 ∧ RW w' g (nx s e n).2.1 (nx s e n).2.2 ∧ w.grownBy w' (some g) ∧ Sz w' (w.heap.size + 1)

end Go.Proofs.Ytpgoikclhegglaa
