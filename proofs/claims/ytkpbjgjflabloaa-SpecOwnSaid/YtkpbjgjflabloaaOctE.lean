/-
  What package octet's windows answer: Open, Num, Byte, Bytes and Sub, of a window with what it has left and its error, and of none. No condition but those of each theorem.
-/
import Derived.Test.YtkpbjgjflabloaaOctD
namespace Go.Proofs.Ytkpbjgjflabloaa
open Go.RowKit

/-! ### Open -/
/-! ### Num -/
/-- What Num answers, what is left, and the error. -/
def nm (l : List UInt8) (e n : Int) : Nat × List UInt8 × Int :=
  if e = 0 ∧ ¬ (1 ≤ n ∧ n ≤ 8) then (0, l, 1) else (valB (nx l e n).1, (nx l e n).2.1, (nx l e n).2.2)

theorem nx_err {l : List UInt8} {e n : Int} (h : e ≠ 0) : nx l e n = ([], l, e) := by simp [nx, h]
theorem nx_neg {l : List UInt8} {n : Int} (h : n < 0) : nx l 0 n = ([], l, 1) := by simp [nx, h]
theorem nx_short {l : List UInt8} {n : Int} (h : 0 ≤ n) (h2 : (l.length : Int) < n) : nx l 0 n = ([], l, 10) := by simp [nx, h2]; omega
theorem nx_ok {l : List UInt8} {n : Int} (h : 0 ≤ n) (h2 : n ≤ l.length) : nx l 0 n = (l.take n.toNat, l.drop n.toNat, 0) := by
  have a : ¬ n < 0 := by omega
  have b : ¬ (l.length : Int) < n := by omega
  simp [nx, a, b]
theorem nx_len (l : List UInt8) (e n : Int) : ((nx l e n).1.length : Int) ≤ max n 0 := by
  unfold nx
  split
  · simp; omega
  · split
    · simp; omega
    · split
      · simp; omega
      · simp; omega
theorem nx_len' (l : List UInt8) (e n : Int) : (nx l e n).1.length ≤ l.length := by
  unfold nx
  split
  · simp
  · split
    · simp
    · split
      · simp
      · simp; omega

theorem pow_val {l : List UInt8} (h : l.length ≤ 8) : valB l < 18446744073709551616 :=
  Nat.lt_of_lt_of_le (valB_lt l) (Nat.le_trans (pow_mono h) (by decide))

end Go.Proofs.Ytkpbjgjflabloaa
