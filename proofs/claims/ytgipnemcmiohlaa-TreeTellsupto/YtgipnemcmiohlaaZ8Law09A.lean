/- What the laws of package tree want of Law09A. -/
import Derived.Test.YtgipnemcmiohlaaZ8TreRefB
namespace Go.Proofs.Ytgipnemcmiohlaa
open Go.RowKit
set_option linter.unusedSimpArgs false
set_option linter.unusedVariables false
section
variable {W0 w : World} (C : TreC W0) (hW : Below W0.heap.size W0 w) {a b : NdD} {f g : NdF} {A B : Option Addr} {c d : Nat}
theorem rsize_q (hx : LieN w (ndC a (.slice A f.len c)) (a, f)) (hf : f.size ≤ 1000000) (W : World) (h : Below w.heap.size w W) : Calls Try.prog 14 #[.agg #[.string (txt a.name), .string (txt a.key), .int .i64 a.kind, .int .u64 (a.num : Int), .string (txt a.text), .slice A f.len c]] W (Ans9 (.int .i64 (sizeX (a, f) : Int)) W) := rsizet_any (a, f) _ W (hx.below h) hf
theorem rless_q (hx : LieN w (ndC a (.slice A f.len c)) (a, f)) (hy : LieN w (ndC b (.slice B g.len d)) (b, g)) (W : World) (h : Below w.heap.size w W) : Calls Try.prog 19 #[.agg #[.string (txt a.name), .string (txt a.key), .int .i64 a.kind, .int .u64 (a.num : Int), .string (txt a.text), .slice A f.len c], .agg #[.string (txt b.name), .string (txt b.key), .int .i64 b.kind, .int .u64 (b.num : Int), .string (txt b.text), .slice B g.len d]] W (Ans9 (.bool (lessX a b)) W) := rless_any (a, f) (b, g) _ _ W (hx.below h) (hy.below h)
include C hW
theorem same_q (hx : LieN w (ndC a (.slice A f.len c)) (a, f)) (hy : LieN w (ndC b (.slice B g.len d)) (b, g)) (hf : f.size ≤ 1000000) (hg : g.size ≤ 1000000) (W : World) (h : Below w.heap.size w W) : Calls Try.prog 17 #[.agg #[.string (txt a.name), .string (txt a.key), .int .i64 a.kind, .int .u64 (a.num : Int), .string (txt a.text), .slice A f.len c], .agg #[.string (txt b.name), .string (txt b.key), .int .i64 b.kind, .int .u64 (b.num : Int), .string (txt b.text), .slice B g.len d]] W (Ans9 (.bool (decide (((a, f) : Nd) = (b, g)))) W) := C.same (a, f) (b, g) _ _ W (hx.below h) (hy.below h) hf hg (hW.trans (h.mono hW.size))
theorem less_q (hx : LieN w (ndC a (.slice A f.len c)) (a, f)) (hy : LieN w (ndC b (.slice B g.len d)) (b, g)) (W : World) (h : Below w.heap.size w W) : Calls Try.prog 18 #[.agg #[.string (txt a.name), .string (txt a.key), .int .i64 a.kind, .int .u64 (a.num : Int), .string (txt a.text), .slice A f.len c], .agg #[.string (txt b.name), .string (txt b.key), .int .i64 b.kind, .int .u64 (b.num : Int), .string (txt b.text), .slice B g.len d]] W (Ans9 (.bool (lessX a b)) W) := C.less (a, f) (b, g) _ _ W (hx.below h) (hy.below h) (hW.trans (h.mono hW.size))
end
end Go.Proofs.Ytgipnemcmiohlaa

