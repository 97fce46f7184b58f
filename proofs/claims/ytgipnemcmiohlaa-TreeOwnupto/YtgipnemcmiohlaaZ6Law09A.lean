/- What the laws of package tree want of Law09A. -/
import Derived.Test.YtgipnemcmiohlaaZ6TreSrtR
namespace Go.Proofs.Ytgipnemcmiohlaa
open Go.RowKit
set_option linter.unusedSimpArgs false
set_option linter.unusedVariables false
section
variable {W0 w : World} (C : TreC W0) (hW : Below W0.heap.size W0 w) {a b : NdD} {f g : NdF} {A B : Option Addr} {c d : Nat}
theorem rsort_q (hx : LieN w (ndC a (.slice A f.len c)) (a, f)) (hf : f.size ≤ 1000000) (W : World) (h : Below w.heap.size w W) : Calls Try.prog 16 #[.agg #[.string (txt a.name), .string (txt a.key), .int .i64 a.kind, .int .u64 (a.num : Int), .string (txt a.text), .slice A f.len c]] W (RTreP1 (a, sortA .nil f) W) :=
  (rsort_any (a, f) _ W (hx.below h) hf).mono fun r W' ⟨cs, h1, h2, h3⟩ => ⟨cs, h1, h2.lies (Nat.zero_le _), h3⟩
include C hW
theorem sort_q (hx : LieN w (ndC a (.slice A f.len c)) (a, f)) (hf : f.size ≤ 1000000) (W : World) (h : Below w.heap.size w W) : Calls Try.prog 10 #[.agg #[.string (txt a.name), .string (txt a.key), .int .i64 a.kind, .int .u64 (a.num : Int), .string (txt a.text), .slice A f.len c]] W (TreP1 (a, sortA .nil f) W) := C.sort (a, f) _ W (hx.below h) hf (hW.trans (h.mono hW.size))
end
end Go.Proofs.Ytgipnemcmiohlaa

