/- What the laws of package tree want of OctRef. -/
import Derived.Test.YtgipnemcmiohlaaZ0OctI
import Derived.Lib.Strings
import Derived.Lib.IndexBytes
import Derived.WalkLawsBesides
namespace Go.Proofs.Ytgipnemcmiohlaa
open Go.RowKit
/-- A text of bytes. -/
def txt (l : List UInt8) : ByteArray := ⟨l.toArray⟩
theorem txt_data (l : List UInt8) : (txt l).data.toList = l := by simp [txt]
theorem txt_ext {a b : ByteArray} (h : a.data.toList = b.data.toList) : a = b := by
  cases a; cases b
  simp only [ByteArray.mk.injEq]
  exact Array.toList_inj.1 h
theorem txt_toList (l : List UInt8) : (txt l).toList = l := by rw [Lib.toList_data, txt_data]
end Go.Proofs.Ytgipnemcmiohlaa

