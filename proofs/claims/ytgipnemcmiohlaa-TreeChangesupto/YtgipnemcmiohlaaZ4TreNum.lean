/- What the laws of package tree want of TreNum. -/
import Derived.Test.YtgipnemcmiohlaaZ0Law09J
import Derived.Test.YtgipnemcmiohlaaZ1Law09C
namespace Go.Proofs.Ytgipnemcmiohlaa
open Go.RowKit
set_option linter.unusedSimpArgs false
set_option linter.unusedVariables false
theorem getF_find {s : Stp} {f : NdF} {y : Nd} (h : gtF s f = some y) : ∃ i, findN s f = some i ∧ f.get? i = some y := by
  cases h2 : findN s f with
  | none => rw [findN_none h2] at h; cases h
  | some i =>
    obtain ⟨z, h3, _, h4⟩ := find_stp h2
    rw [h] at h4
    injection h4 with h4
    exact ⟨i, rfl, h4 ▸ h3⟩
end Go.Proofs.Ytgipnemcmiohlaa

