/-
  What the document's answers for layer 1, as functions on texts, compute (package tollbarref01: W's Bytes, Num, Sub and End, and Value of at most eight bytes). No condition but those of each theorem.
-/
import Derived.Test.YtkpbjgjflabloaaOctI
import Derived.Lib.Strings
import Derived.Lib.IndexBytes
import Derived.WalkLawsBesides
namespace Go.Proofs.Ytkpbjgjflabloaa
open Go.RowKit

/-- A text of bytes. -/
def txt (l : List UInt8) : ByteArray := ⟨l.toArray⟩
theorem txt_size (l : List UInt8) : (txt l).size = l.length := by simp [txt, ByteArray.size]
theorem txt_data (l : List UInt8) : (txt l).data.toList = l := by simp [txt]
theorem txt_ext {a b : ByteArray} (h : a.data.toList = b.data.toList) : a = b := by
  cases a; cases b
  simp only [ByteArray.mk.injEq]
  exact Array.toList_inj.1 h
theorem txt_extract (l : List UInt8) (a b : Nat) : (txt l).extract a b = txt ((l.take b).drop a) := by
  apply txt_ext
  rw [Lib.extract_data, txt_data, txt_data, List.drop_take]

theorem txt_toList (l : List UInt8) : (txt l).toList = l := by rw [Lib.toList_data, txt_data]
theorem txt_some {l : List UInt8} (h : 0 < l.length) : (!(txt l).toList.isEmpty) = true := by
  rw [txt_toList]
  cases l with
  | nil => simp at h
  | cons => rfl
theorem txt_none : (!(txt []).toList.isEmpty) = false := by rw [txt_toList]; rfl

def REndPost (s : List UInt8) (e : Int) (w : World) (r : Ending) (w' : World) : Prop := r = .returned (.int .i64 (endOf s e)) ∧ w = w'
end Go.Proofs.Ytkpbjgjflabloaa
