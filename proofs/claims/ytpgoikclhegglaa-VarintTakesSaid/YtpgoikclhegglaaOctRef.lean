/-
  What the document's answers for layer 1, as functions on texts, compute (package tollbarref01: W's Bytes, Num, Sub and End, and Value of at most eight bytes). No condition but those of each theorem.
-/
import Derived.Test.YtpgoikclhegglaaOctI
import Derived.Lib.Strings
import Derived.Lib.IndexBytes
import Derived.WalkLawsBesides
namespace Go.Proofs.Ytpgoikclhegglaa
open Go.RowKit

/-- A text of bytes. -/
def txt (l : List UInt8) : ByteArray := ⟨l.toArray⟩
theorem txt_size (l : List UInt8) : (txt l).size = l.length := by simp [txt, ByteArray.size]
theorem txt_data (l : List UInt8) : (txt l).data.toList = l := by simp [txt]
theorem txt_ext {a b : ByteArray} (h : a.data.toList = b.data.toList) : a = b := by
  cases a; cases b
  simp only [ByteArray.mk.injEq]
  exact Array.toList_inj.1 h
theorem txt_extract (l : List UInt8) (a b : Nat) : (txt l).extract a b = txt ((l.take b).drop a) := by
  apply txt_ext
  rw [Lib.extract_data, txt_data, txt_data, List.drop_take]

/-- A window of the document's answers: block g holds the text s and the error e. -/
def RW (w : World) (g : Nat) (s : List UInt8) (e : Int) : Prop := Blk w g 37 #[.string (txt s), .int .i64 e]
theorem RW.lt {w : World} {g : Nat} {s : List UInt8} {e : Int} (h : RW w g s e) : g < w.heap.size := Blk.lt h
theorem RW.grown {w w' : World} {g g' : Nat} {s : List UInt8} {e : Int} (h : RW w g s e) (hb : w.grownBy w' (some g')) (hg : g ≠ g') : RW w' g s e := Blk.grown h hb (by simpa using hg)
theorem RW.below {w w' : World} {g : Nat} {s : List UInt8} {e : Int} (h : RW w g s e) (hb : Below w.heap.size w w') : RW w' g s e := Blk.below h hb h.lt
theorem RW.cell0 {w : World} {g : Nat} {s : List UInt8} {e : Int} (h : RW w g s e) : w.cell? ⟨g, 0, none⟩ = some (.string (txt s)) := by rw [Blk.cell h]; rfl
theorem RW.cell1 {w : World} {g : Nat} {s : List UInt8} {e : Int} (h : RW w g s e) : w.cell? ⟨g, 1, none⟩ = some (.int .i64 e) := by rw [Blk.cell h]; rfl

theorem txt_toList (l : List UInt8) : (txt l).toList = l := by rw [Lib.toList_data, txt_data]
theorem txt_some {l : List UInt8} (h : 0 < l.length) : (!(txt l).toList.isEmpty) = true := by
  rw [txt_toList]
  cases l with
  | nil => simp at h
  | cons => rfl
theorem txt_none : (!(txt []).toList.isEmpty) = false := by rw [txt_toList]; rfl

def REndPost (s : List UInt8) (e : Int) (w : World) (r : Ending) (w' : World) : Prop := r = .returned (.int .i64 (endOf s e)) ∧ w = w'
def RBytesPost (g : Nat) (s : List UInt8) (e n : Int) (w : World) (r : Ending) (w' : World) : Prop :=
  r = .returned (.string (txt (nx s e n).1)) ∧ RW w' g (nx s e n).2.1 (nx s e n).2.2 ∧ w.grownBy w' (some g) ∧ Sz w' w.heap.size

theorem rbytes_any (g : Nat) (s : List UInt8) (e n : Int) (w : World) (h : RW w g s e) :
    Calls Try.prog 19 #[.pointer (some ⟨g, 0, none⟩), .int .i64 n] w (RBytesPost g s e n w) := by
  have h0 := h.cell0
  have h1 := h.cell1
  have f0 : w.frozen? ⟨g, 0, none⟩ = false := Blk.frozen h 0
  have f1 : w.frozen? ⟨g, 1, none⟩ = false := Blk.frozen h 1
  have hsz := txt_size s
  by_cases he : e = 0
  · subst he
    by_cases hn : n < 0
    · have Hp : RBytesPost g s 0 n w (.returned (.string ⟨#[]⟩)) (w.setCell ⟨g, 1, none⟩ (.int .i64 1)) := by
        refine ⟨?_, ?_, grown_set _, by simp [Sz, World.setCell]⟩
        · rw [nx_neg hn]; rfl
        · rw [nx_neg hn]; exact Blk.set_ h 1 _
      have HP := Lib.hid Hp
      clear Hp
      go_enter Try.func19, Try.ntmps19
      go_wp2
      go_ret
      exact HP.out
    · by_cases hn2 : (s.length : Int) < n
      · have Hp : RBytesPost g s 0 n w (.returned (.string ⟨#[]⟩)) (w.setCell ⟨g, 1, none⟩ (.int .i64 10)) := by
          refine ⟨?_, ?_, grown_set _, by simp [Sz, World.setCell]⟩
          · rw [nx_short (by omega) hn2]; rfl
          · rw [nx_short (by omega) hn2]; exact Blk.set_ h 1 _
        have HP := Lib.hid Hp
        clear Hp
        go_enter Try.func19, Try.ntmps19
        go_wp2
        go_ret
        exact HP.out
      · obtain ⟨k, rfl⟩ := Int.eq_ofNat_of_zero_le (Int.not_lt.mp hn)
        have hk : k ≤ s.length := by omega
        have Hp : RBytesPost g s 0 k w (.returned (.string ((txt s).extract 0 k))) (w.setCell ⟨g, 0, none⟩ (.string ((txt s).extract k s.length))) := by
          rw [txt_extract, txt_extract]
          refine ⟨?_, ?_, grown_set _, by simp [Sz, World.setCell]⟩
          · rw [nx_ok (by omega) (by omega)]; rfl
          · rw [nx_ok (by omega) (by omega), List.take_of_length_le (Nat.le_refl _)]; exact Blk.set_ h 0 _
        have HP := Lib.hid Hp
        clear Hp
        go_enter Try.func19, Try.ntmps19
        go_wp2
        go_ret
        exact HP.out
  · have hb : (e == 0) = false := by simpa using he
    have hb2 : (e != 0) = true := by simpa using he
    have Hp : RBytesPost g s e n w (.returned (.string ⟨#[]⟩)) w := by
      refine ⟨?_, ?_, World.grownBy.refl w _, rfl⟩
      · rw [nx_err he]; rfl
      · rw [nx_err he]; exact h
    have HP := Lib.hid Hp
    clear Hp
    go_enter Try.func19, Try.ntmps19
    go_wp2
    go_ret
    exact HP.out

end Go.Proofs.Ytpgoikclhegglaa
