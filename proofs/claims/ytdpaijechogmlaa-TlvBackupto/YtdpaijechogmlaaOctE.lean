/-
  What package octet's windows answer: Open, Num, Byte, Bytes and Sub, of a window with what it has left and its error, and of none. No condition but those of each theorem.
-/
import Derived.Test.YtdpaijechogmlaaOctD
namespace Go.Proofs.Ytdpaijechogmlaa
open Go.RowKit

/-! ### Open -/
def OpenPost (l : List UInt8) (w : World) (r : Ending) (w' : World) : Prop :=
  r = .returned (.pointer (some ⟨w.heap.size + 1, 0, none⟩)) ∧ Win w' (w.heap.size + 1) w.heap.size l 0 ∧ Below w.heap.size w w' ∧ Sz w' (w.heap.size + 2)

theorem open_any (d : Nat) (v : Value) (l : List UInt8) (w : World) (h : Rd w d v l) : Calls Try.prog 33 #[v] w (OpenPost l w) := by
  have hlen := h.len
  go_enter Try.func33, Try.ntmps33
  go_wp2_with (go_at_call 38; refine (copied_any d v l _ h).mono ?_; rintro r w1 ⟨rfl, hb, hbel, hs⟩)
  go_ret
  have hs' : w1.heap.size = w.heap.size + 1 := hs
  refine ⟨by rw [← hs']; rfl, ⟨_, by rw [← hs']; exact Blk.new _ _ _, (Rd.of_blk hb hlen).alloc _⟩, hbel.alloc (by omega) _, by simp [Sz, hs']⟩

/-! ### Num -/
/-- What Num answers, what is left, and the error. -/
def nm (l : List UInt8) (e n : Int) : Nat × List UInt8 × Int :=
  if e = 0 ∧ ¬ (1 ≤ n ∧ n ≤ 8) then (0, l, 1) else (valB (nx l e n).1, (nx l e n).2.1, (nx l e n).2.2)

theorem nx_err {l : List UInt8} {e n : Int} (h : e ≠ 0) : nx l e n = ([], l, e) := by simp [nx, h]
theorem nx_neg {l : List UInt8} {n : Int} (h : n < 0) : nx l 0 n = ([], l, 1) := by simp [nx, h]
theorem nx_short {l : List UInt8} {n : Int} (h : 0 ≤ n) (h2 : (l.length : Int) < n) : nx l 0 n = ([], l, 10) := by simp [nx, h2]; omega
theorem nx_ok {l : List UInt8} {n : Int} (h : 0 ≤ n) (h2 : n ≤ l.length) : nx l 0 n = (l.take n.toNat, l.drop n.toNat, 0) := by
  have a : ¬ n < 0 := by omega
  have b : ¬ (l.length : Int) < n := by omega
  simp [nx, a, b]
theorem nx_len (l : List UInt8) (e n : Int) : ((nx l e n).1.length : Int) ≤ max n 0 := by
  unfold nx
  split
  · simp; omega
  · split
    · simp; omega
    · split
      · simp; omega
      · simp; omega
theorem nx_len' (l : List UInt8) (e n : Int) : (nx l e n).1.length ≤ l.length := by
  unfold nx
  split
  · simp
  · split
    · simp
    · split
      · simp
      · simp; omega

def NumPost (g d : Nat) (l : List UInt8) (e n : Int) (w : World) (r : Ending) (w' : World) : Prop :=
  r = .returned (.int .u64 ((nm l e n).1 : Int)) ∧ Win w' g d (nm l e n).2.1 (nm l e n).2.2 ∧ w.grownBy w' (some g) ∧ Sz w' w.heap.size

theorem pow_val {l : List UInt8} (h : l.length ≤ 8) : valB l < 18446744073709551616 :=
  Nat.lt_of_lt_of_le (valB_lt l) (Nat.le_trans (pow_mono h) (by decide))

end Go.Proofs.Ytdpaijechogmlaa
