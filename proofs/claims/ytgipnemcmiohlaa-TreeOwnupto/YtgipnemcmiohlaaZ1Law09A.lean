/- What the laws of package tree want of Law09A. -/
import Derived.Test.YtgipnemcmiohlaaZ1TreOpen
namespace Go.Proofs.Ytgipnemcmiohlaa
open Go.RowKit
set_option linter.unusedSimpArgs false
set_option linter.unusedVariables false
section
variable {W0 w : World} (C : TreC W0) (hW : Below W0.heap.size W0 w) {a b : NdD} {f g : NdF} {A B : Option Addr} {c d : Nat}
include C hW
theorem get_q {v : Value} {l : List Stp} (hx : LieN w (ndC a (.slice A f.len c)) (a, f)) (hv : WayV w.heap.size w v l) (hf : f.size ≤ 1000000) (hl : l.length ≤ 1000000) (W : World) (h : Below w.heap.size w W) : Calls Try.prog 20 #[.agg #[.string (txt a.name), .string (txt a.key), .int .i64 a.kind, .int .u64 (a.num : Int), .string (txt a.text), .slice A f.len c], v] W (TreP (GetX (a, f) l).1 (.bool (GetX (a, f) l).2) W) := C.get (a, f) l _ v W (hx.below h) (hv.below h) hf hl (hW.trans (h.mono hW.size))
theorem set_q {v : Value} {l : List Stp} (hx : LieN w (ndC a (.slice A f.len c)) (a, f)) (hy : LieN w (ndC b (.slice B g.len d)) (b, g)) (hv : WayV w.heap.size w v l) (hf : f.size ≤ 1000000) (hg : g.size ≤ 1000000) (hr : rgtX (a, f) = true) (hl : l.length ≤ 1000000) (W : World) (h : Below w.heap.size w W) : Calls Try.prog 22 #[.agg #[.string (txt a.name), .string (txt a.key), .int .i64 a.kind, .int .u64 (a.num : Int), .string (txt a.text), .slice A f.len c], v, .agg #[.string (txt b.name), .string (txt b.key), .int .i64 b.kind, .int .u64 (b.num : Int), .string (txt b.text), .slice B g.len d]] W (TreP (SetX (a, f) l (b, g)).1 (.int .i64 ((SetX (a, f) l (b, g)).2 : Int)) W) := C.set (a, f) (b, g) l _ _ v W (hx.below h) (hy.below h) (hv.below h) hf hg hr hl (hW.trans (h.mono hW.size))
theorem cut_q {v : Value} {l : List Stp} (hx : LieN w (ndC a (.slice A f.len c)) (a, f)) (hv : WayV w.heap.size w v l) (hf : f.size ≤ 1000000) (hr : rgtX (a, f) = true) (hl : l.length ≤ 1000000) (W : World) (h : Below w.heap.size w W) : Calls Try.prog 24 #[.agg #[.string (txt a.name), .string (txt a.key), .int .i64 a.kind, .int .u64 (a.num : Int), .string (txt a.text), .slice A f.len c], v] W (TreP (CutX (a, f) l).1 (.int .i64 ((CutX (a, f) l).2 : Int)) W) := C.cut (a, f) l _ v W (hx.below h) (hv.below h) hf hr hl (hW.trans (h.mono hW.size))
end
end Go.Proofs.Ytgipnemcmiohlaa

