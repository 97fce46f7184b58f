/- What the laws of package tree want of TreWithR. -/
import Derived.Test.YtgipnemcmiohlaaZ0TreGetR
namespace Go.Proofs.Ytgipnemcmiohlaa
open Go.RowKit
set_option linter.unusedSimpArgs false
set_option linter.unusedVariables false
theorem Try.cellsNd : (Try.prog.info? 27).map (fun i => (i.zero, i.size, i.bytes)) = some (some (.agg #[.string ⟨#[]⟩, .string ⟨#[]⟩, .int .i64 0, .int .u64 0, .string ⟨#[]⟩, .slice none 0 0]), 6, 88) := by kernel_rfl
end Go.Proofs.Ytgipnemcmiohlaa

