/- What the laws of package tree want of OctNum. -/
import Derived.Test.YtgipnemcmiohlaaZ0OctB
import Derived.Test.YtgipnemcmiohlaaRows
namespace Go.Proofs.Ytgipnemcmiohlaa
/-- The number of bytes, the greatest first. -/
def valB (l : List UInt8) : Nat := l.foldl (fun a b => a * 256 + b.toNat) 0
end Go.Proofs.Ytgipnemcmiohlaa

