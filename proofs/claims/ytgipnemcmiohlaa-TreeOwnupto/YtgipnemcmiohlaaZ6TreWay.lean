/- What the laws of package tree want of TreWay. -/
import Derived.Test.YtgipnemcmiohlaaZ6Forest
namespace Go.Proofs.Ytgipnemcmiohlaa
open Go.RowKit
set_option linter.unusedSimpArgs false
set_option linter.unusedVariables false
theorem posD_le {a : NdD} {g : NdF} : ∀ n, posD a g n ≤ n := by
  intro n
  induction n with
  | zero => exact Nat.le_refl _
  | succ n ih =>
    simp only [posD]
    split
    · exact Nat.le_refl _
    · split <;> omega
theorem insB_len {y : Nd} {g : NdF} : (insB y g).len = g.len + 1 := by
  have := with_len (f := g) (l := oneF y) (a := posD y.1 g g.len) (m := 0) (posD_le _)
  have e : (oneF y).len = 1 := rfl
  rw [e] at this
  unfold insB
  omega
theorem sortA_len : ∀ (r g : NdF), (sortA g r).len = g.len + r.len := by
  intro r
  induction r with
  | nil => intro g; simp [sortA, Fr.len]
  | cons a k r _ ih => intro g; simp only [sortA, Fr.len]; rw [ih, insB_len]; omega
end Go.Proofs.Ytgipnemcmiohlaa

