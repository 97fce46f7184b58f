/-
  What the document's answers for layer 2 compute, the rest: Take. No condition but those of each theorem.
-/
import Derived.Test.YtepcaaejadeklaaDoorVarRefB
namespace Go.Proofs.YtepcaaejadeklaaDoor
open Go.RowKit
set_option linter.unusedSimpArgs false

theorem lead_le (f : Nat) : ∀ s : List UInt8, lead f s ≤ f ∧ lead f s ≤ s.length := by
  induction f with
  | zero => intro s; simp [lead]
  | succ f ih =>
    intro s
    cases s with
    | nil => simp [lead]
    | cons b l =>
      unfold lead
      have := ih l
      split <;> simp <;> omega
theorem getV_le (s : List UInt8) : (getV s).2.1 ≤ s.length ∧ (getV s).2.1 ≤ 10 := by
  have := lead_le 10 s
  unfold getV
  repeat' split
  all_goals simp <;> omega

end Go.Proofs.YtepcaaejadeklaaDoor
